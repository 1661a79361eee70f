import PyProof.Rows.All
import Wide.All
import OpenK.AllK
import Wide.FinOn
import PyProof.ZipIter
import PyProof.EnumMake
import PyProof.Draws
import KE.KRevIter
import PyProof.ListRange
import PyProof.CollectStr
import PyProof.Rows.CallKwBuiltin
import PyProof.MinMaxWalk
import PyProof.WalkInts
import PyProof.ListMulRoad
import PyProof.ReprRoads
import PyProof.ReprLen
import PyProof.IsRules
import PyProof.Rows.SortShell
import KE.KSortTup
import PyProof.StrLawsIn
import Lean
import PyProof.EqAt
import PyProof.EqKinds
import PyProof.TupleCall
import PySem.Challenge.RW_shapefree_k05_whole_replaced
noncomputable section
set_option Elab.async false
set_option linter.all false
set_option maxRecDepth 100000
set_option maxHeartbeats 4000000
abbrev dL:=@Option.bind_some
abbrev jh:=@Bool.and_eq_true
abbrev jl:=@List.getElem?_eq_getElem
abbrev jm:=@PySem.Heap.get?_push_of_some
abbrev jo:=@List.getElem?_eq_some_iff
abbrev jq:=@List.size_toArray
abbrev jr:=@Bool.false_eq_true
abbrev ju:=@Nat.le_refl
abbrev jv:=@List.length_map
abbrev jw:=@List.mem_append_right
abbrev jy:=@List.contains_iff_mem
abbrev jz:=@List.map_cons
abbrev kA:=@List.mem_cons_self
abbrev kB:=@List.mem_cons_of_mem
abbrev kD:=@PySem.Heap.get?_push_size
abbrev kF:=@PySem.Heap.lt_size
abbrev kG:=@List.length_cons
abbrev kH:=@List.mem_append_left
abbrev kI:=@Bool.false_ne_true
abbrev kK:=@List.getElem?_append_left
abbrev kL:=@List.getD_eq_getElem?_getD
abbrev kM:=@Nat.le_trans
abbrev kN:=@List.getElem?_map
abbrev kO:=@Nat.lt_of_lt_of_le
abbrev kP:=@Nat.ne_of_lt
abbrev kQ:=@List.getElem?_set_ne
abbrev kR:=@List.length_set
abbrev kS:=@List.getElem?_append_right
abbrev kT:=@List.length_append
abbrev kU:=@List.mem_append
abbrev kW:=@List.getElem?_set_self
abbrev kX:=@PyProof.Rows.callWith_type1
abbrev kY:=@List.mem_singleton
abbrev kZ:=@List.mem_cons
abbrev ka:=@List.all_eq_true
abbrev kb:=@PyProof.Rows.slot_tuple_getitem
abbrev kc:=@PySem.mem_of_lookup
abbrev kd:=@Option.map_eq_some_iff
abbrev kg:=@Nat.zero_le
abbrev kh:=@List.mem_of_getElem?
abbrev ki:=@List.lookup_cons
abbrev kj:=@List.append_assoc
abbrev kl:=@List.eq_nil_of_length_eq_zero
abbrev km:=@PySem.Heap.get?_update_other
abbrev kn:=@Option.map_some
abbrev ko:=@List.zip_cons_cons
abbrev kq:=@List.length_nil
abbrev kr:=@List.all_cons
abbrev ku:=@Bool.and_self
abbrev kz:=@List.find?_some
abbrev lA:=@List.map_append
abbrev lB:=@List.append_nil
abbrev lC:=@Nat.lt_irrefl
abbrev lD:=@Bool.not_eq_true'
abbrev lE:=@List.replicate_succ
abbrev lF:=@Nat.sub_self
abbrev lG:=@List.getElem?_eq_none
abbrev lH:=@Bool.and_eq_true_iff
abbrev lI:=@List.length_reverse
abbrev lJ:=@List.getElem?_range
abbrev lK:=@List.filterMap_cons
abbrev lL:=@List.length_take
abbrev lM:=@List.lookup_append
abbrev lN:=@Nat.le_succ
abbrev lO:=@List.getElem?_reverse
abbrev lP:=@PySem.Heap.get?_update_self
abbrev lQ:=@List.length_range
abbrev lR:=@List.flatten_cons
abbrev lS:=@List.any_cons
abbrev lT:=@List.mem_range
abbrev lU:=@PySem.Heap.size_push
abbrev lV:=@List.not_mem_nil
abbrev lW:=@PySem.Heap.get?_update_ne
abbrev lX:=@Option.isSome_iff_exists
abbrev lY:=@List.mem_map
abbrev lZ:=@List.map_nil
abbrev la:=@Nat.add_sub_cancel
abbrev lg:=@List.mem_filter
abbrev lh:=@List.getElem?_cons_succ
abbrev lj:=@List.find?_cons
abbrev lp:=@Nat.lt_succ_of_lt
abbrev lq:=@List.reverse_cons
abbrev lx:=@PySem.Heap.get?_push_ne
abbrev ly:=@List.cons_append
abbrev lz:=@PySem.Heap.size_update
abbrev mB:=@List.getElem?_of_mem
abbrev mC:=@List.nodup_cons
abbrev mD:=@List.nil_append
abbrev mE:=@Nat.ne_of_gt
abbrev mF:=@List.map_map
abbrev mG:=@List.mem_or_eq_of_mem_set
abbrev mH:=@List.drop_eq_getElem_cons
abbrev mI:=@List.flatMap_cons
abbrev mJ:=@Option.bind_eq_some_iff
abbrev mK:=@List.mem_singleton_self
abbrev mL:=@List.length_drop
abbrev mM:=@List.getElem_mem
abbrev mN:=@List.take_of_length_le
abbrev mO:=@List.range_succ_eq_map
abbrev mP:=@Nat.sub_eq_zero_of_le
abbrev mQ:=@Nat.min_self
abbrev mR:=@List.length_singleton
abbrev mS:=@Int.emod_nonneg
abbrev mT:=@Bool.or_eq_true
abbrev mU:=@Bool.beq_eq_decide_eq
abbrev mV:=@List.take_succ_cons
abbrev mW:=@List.getElem_of_mem
abbrev mX:=@Nat.lt_of_le_of_lt
abbrev mY:=@List.pairwise_cons
abbrev mZ:=@List.map_take
abbrev ma:=@List.filterMap_map
abbrev me:=@Int.emod_lt_of_pos
abbrev mf:=@Nat.zero_add
abbrev mh:=@List.set_set
abbrev mi:=@Bool.true_or
abbrev mj:=@Nat.lt_succ_self
abbrev ml:=@List.range'_succ
abbrev mm:=@List.getElem_inj
abbrev mn:=@Bool.not_eq_true
abbrev mq:=@List.of_mem_zip
abbrev mr:=@List.foldl_cons
abbrev mv:=@List.nodup_iff_pairwise_ne
abbrev mw:=@List.mem_of_find?_eq_some
abbrev mx:=@Bool.and_false
abbrev my:=@List.getElem?_take_of_lt
abbrev mz:=@List.getElem?_replicate
abbrev nA:=@Bool.true_and
abbrev nB:=@Bool.not_true
namespace L2
open PySem PySem.Spec PyProof.Rows
noncomputable abbrev BE:=Sum Int Str
def IR:BE->Value->Bool
 | .inl k,v=>Value.isInt k v
 | .inr x,v=>Value.isStrOf x v
def hV (w:World):BE->Int
 | .inl k=>hashInt k
 | .inr x=>hashStr w x
theorem Ah:∀ {k:BE} {v:Value},IR k v=true->(∃ i t,k=Sum.inl i/\v=Value.int i t)\/(∃ x t,k=Sum.inr x/\v=Value.str x t)
 | .inl i,v,h=>by
  obtain ⟨t,e⟩:=Value.isInt_shape (k:=i) (v:=v) h;exact .inl ⟨i,t,rfl,e⟩
 | .inr x,v,h=>by
  obtain ⟨t,e⟩:=Value.isStrOf_shape (x:=x) (v:=v) h;exact .inr ⟨x,t,rfl,e⟩
theorem QH (i:Int) (t:Tok):IR (.inl i) (.int i t)=true:=by simp [IR,Value.isInt]
theorem QG (x:Str) (t:Tok):IR (.inr x) (.str x t)=true:=by simp [IR,Value.isStrOf]
theorem ai (a b:Int):decide ((Sum.inl a:BE)=Sum.inl b)=(a == b):=by
 by_cases e:a=b
 ·subst e;simp
 ·have h:¬ (Sum.inl a:BE)=Sum.inl b:=fun q=>e (Sum.inl.inj q)
  rw [decide_eq_false h];exact (beq_eq_false_iff_ne.mpr e).symm
theorem ae (a b:Str):decide ((Sum.inr a:BE)=Sum.inr b)=decide (a=b):=by
 by_cases e:a=b
 ·subst e;simp
 ·have h:¬ (Sum.inr a:BE)=Sum.inr b:=fun q=>e (Sum.inr.inj q)
  rw [decide_eq_false h,decide_eq_false e]
theorem ah (a:Int) (b:Str):decide ((Sum.inl a:BE)=Sum.inr b)=false:=decide_eq_false (fun q=>nomatch q)
theorem af (a:Str) (b:Int):decide ((Sum.inr a:BE)=Sum.inl b)=false:=decide_eq_false (fun q=>nomatch q)
def Ay (prog:Program) (w:World):PySem.KeyKind prog w BE where
 is:=IR
 hash:=hV w
 inj:=fun v a b ha hb=>by
  rcases Ah ha with ⟨i,t,rfl,rfl⟩ | ⟨x,t,rfl,rfl⟩
  ·rcases Ah hb with ⟨j,u,rfl,e⟩ | ⟨y,u,rfl,e⟩
   ·injection e with e1 _;rw [e1]
   ·exact nomatch e
  ·rcases Ah hb with ⟨j,u,rfl,e⟩ | ⟨y,u,rfl,e⟩
   ·exact nomatch e
   ·injection e with e1 _;rw [e1]
 byValue:=fun k v h=>by
  rcases Ah h with ⟨i,t,rfl,rfl⟩ | ⟨x,t,rfl,rfl⟩<;>rfl
 pyHash:=fun hv h=>by
  rcases Ah hv with ⟨i,t,rfl,rfl⟩ | ⟨x,t,rfl,rfl⟩
  ·exact wpAny_pyHash_int h
  ·exact wpAny_pyHash_str h
 eqBool:=fun hu hv h=>by
  rcases Ah hu with ⟨i,t,rfl,rfl⟩ | ⟨x,t,rfl,rfl⟩
  ·rcases Ah hv with ⟨j,u,rfl,rfl⟩ | ⟨y,u,rfl,rfl⟩
   ·rw [ai] at h;exact wpAny_eqBool_int h
   ·rw [ah] at h;exact SeqAt.EqAt.int_str i t y u _ _ _ _ h
  ·rcases Ah hv with ⟨j,u,rfl,rfl⟩ | ⟨y,u,rfl,rfl⟩
   ·rw [af] at h;exact SeqAt.EqAt.str_int x t j u _ _ _ _ h
   ·rw [ae] at h;exact wpAny_eqBool_str h
 «strs»:=fun k x t v h=>by
  rcases Ah h with ⟨i,u,rfl,e⟩ | ⟨y,u,rfl,e⟩
  ·exact nomatch e
  ·injection e with e1 _
   subst e1;cases v<;>rfl
theorem Ks (prog:Program) (w:World) (i:Int) (t:Tok):(Ay prog w).is (.inl i) (.int i t)=true:=QH i t
theorem Kr (prog:Program) (w:World) (x:Str) (t:Tok):(Ay prog w).is (.inr x) (.str x t)=true:=QG x t
inductive V where
 | non | bl (b:Bool) | int (i:Int) | str (x:Str) | byt (b:Array UInt8) | flt (b:UInt64) | ref (a:Addr) | ty (n:String)
 deriving DecidableEq
def RelV:V->Value->Prop
 | .non,u=>u=Value.none
 | .bl b,u=>u=Value.bool b
 | .int i,u=>∃ t,u=Value.int i t
 | .str x,u=>∃ t,u=Value.str x t
 | .byt b,u=>∃ t,u=Value.bytes b t
 | .flt b,u=>∃ t,u=Value.float b t
 | .ref a,u=>u=Value.ref a
 | .ty n,u=>u=Value.type n
abbrev AD:List V->List Value->Prop:=Paired RelV
theorem AD.length {xs:List V} {us:List Value} (r:AD xs us):xs.length=us.length:=Paired.length r
theorem AD.get:∀ {xs:List V} {us:List Value} {i:Nat} {x:V},AD xs us->xs[i]?=some x->∃ u,us[i]?=some u/\RelV x u
 | _,_,_,_,.nil,e=>by simp at e
 | _,_,0,_,.cons r _,e=>by simp at e;subst e;exact ⟨_,rfl,r⟩
 | _,_,i+1,x,.cons _ t,e=>by
  obtain ⟨u,h1,h2⟩:=AD.get (i:=i) (x:=x) t (by simpa using e);exact ⟨u,by simpa using h1,h2⟩
theorem AD.set {x:V} {u:Value} (r:RelV x u):∀ {xs:List V} {us:List Value} (i:Nat),AD xs us->AD (xs.set i x) (us.set i u)
 | _,_,_,.nil=>.nil
 | _,_,0,.cons _ t=>.cons r t
 | _,_,i+1,.cons q t=>.cons q (AD.set r i t)
theorem AD.append:∀ {xs ys:List V} {us ws:List Value},AD xs us->AD ys ws->AD (xs++ys) (us++ws)
 | _,_,_,_,.nil,s=>s
 | _,_,_,_,.cons r t,s=>.cons r (AD.append t s)
theorem AD.take:∀ {xs:List V} {us:List Value} (n:Nat),AD xs us->AD (xs.take n) (us.take n)
 | _,_,0,_=>.nil
 | _,_,_+1,.nil=>.nil
 | _,_,n+1,.cons r t=>.cons r (AD.take n t)
theorem AD.drop:∀ {xs:List V} {us:List Value} (n:Nat),AD xs us->AD (xs.drop n) (us.drop n)
 | _,_,0,r=>r
 | _,_,_+1,.nil=>.nil
 | _,_,n+1,.cons _ t=>AD.drop n t
def Hs:Option V->Option Value->Prop
 | some v,some u=>RelV v u
 | none,none=>True
 | _,_=>False
def KV {κ:Type}:List (κ×V)->List (κ×Value)->Prop:=Paired fun (p:κ×V) (q:κ×Value)=>p.1=q.1/\RelV p.2 q.2
def kV:BE->V
 | .inl i=>.int i
 | .inr x=>.str x
inductive HO where
 | lst (xs:List V)
 | tup (xs:List V)
 | dK (kvs:List (BE×V)) | dT (kvs:List (List BE×V))
 | set (S:Int->Bool) (n:Nat)
 | ins (C dx:Addr) (fs:List (Str×V))
 | own (x:Addr)
 | xd (fs:List (Str×V))
 | met (f x:Addr)
 | rng (lo hi:Int)
 | frz (o:Obj) (u:HO)
 | tbl (ps:Array Value)
 | ext (φ:Heap->Prop)
noncomputable abbrev Hp:=Addr->Option HO
def upd (H:Hp) (a:Addr) (o:HO):Hp:=fun b=>if b=a then some o else H b
theorem BS {H:Hp} {a:Addr} {o:HO}:upd H a o a=some o:=by unfold upd;rw [if_pos rfl]
theorem AO {H:Hp} {a b:Addr} {o:HO} (h:b≠a):upd H a o b=H b:=by unfold upd;rw [if_neg h]
theorem fA {H:Hp} {a b:Addr} {o u:HO} (h:H a=some o) (h':H b=some u) (d:o≠u):a≠b:=by
 intro e;subst e;rw [h] at h';exact d (Option.some.inj h')
theorem Bi {H:Hp} {a b:Addr} {o:HO} (h:H a=some o) (h':H b=none):a≠b:=by
 intro e;subst e;rw [h] at h';cases h'
def GH (h:Heap) (a:Addr) (items:Array Value):Prop:=∃ o,h.get? a=some o/\o.cls=.type "tuple" /\ o.dict=none/\∃ n,o.data=.seq items n
theorem GH.tup {h:Heap} {a:Addr} {items:Array Value} (x:GH h a items):IsTup h a items:=let ⟨o,e,c,_,d⟩:=x;⟨o,e,c,d⟩
theorem GH.new (h:Heap) (items:Array Value):GH (h.push { cls:=.type "tuple", data:=.seq items }) h.objs.size items:=⟨_,kD _ rfl,rfl,rfl,_,rfl⟩
section
variable (P:Program) (w:World)
def An (H:Hp) (h:Heap) (a:Addr):HO->Prop
  | .lst xs=>xs.length<=sizeLine/\∃ (its:List Value) (n:Nat),AD xs its/\h.get? a=some { cls:=.type "list", data:=.seq its.toArray n }
  | .tup xs=>xs.length<=sizeLine/\∃ its:List Value,AD xs its/\GH h a its.toArray
  | .dK kvs=>kvs.length<=sizeLine/\(a == sysModules)=false/\∃ vs,KV kvs vs/\h.DictOf (Ay P w) a vs
  | .dT kvs=>kvs.length<=sizeLine/\(a == sysModules)=false/\∃ xs:List (List BE×Addr×Value),
      Paired (fun (p:List BE×V) (q:List BE×Addr×Value)=>p.1=q.1/\H q.2.1=some (.tup (p.1.map kV))/\RelV p.2 q.2.2) kvs xs /\
      ∃ o es ep,h.get? a=some o/\o.ExactDict/\o.data=.dict es ep/\es.toList=xs.map (entryOfKey (tupleKind (Ay P w)))/\(xs.map (·.1)).Nodup
  | .set S n=>h.SetOf (intKind P w) a S n
  | .ins C dx fs=>H dx=some (.own a)/\fs.length<=1000/\dx≠a/\h.get? a=some (W.instObj C dx) /\
      ∃ mA,h.Ns1 dx mA/\(∀ f,Hs (fs.lookup f) (mA f))/\PySem.Within mA (fs.map (·.1))
  | .own _=>∃ o,h.get? a=some o
  | .xd fs=>∃ mA,h.Ns1 a mA/\∀ f,Hs (fs.lookup f) (mA f)
  | .rng lo hi=>∃ t u v,h.get? a=some { cls:=.type "range", data:=.fields #[.int lo t,.int hi u,.int 1 v] }
  | .frz o u=>h.get? a=some o/\An H h a u
  | .tbl ps=>h.get? a=some { cls:=.none,data:=.fields ps }
  | .met f x=>h.get? a=some (W.methodObj (.ref f) (.ref x))
  | .ext φ=>φ h/\(∃ o,h.get? a=some o)/\∀ h1 h2:Heap,φ h1->(∀ o,h1.get? a=some o->h2.get? a=some o)->φ h2
def ER (H:Hp) (h:Heap):Prop:=∀ a o,H a=some o->An P w H h a o
end
section
variable {P:Program} {w:World} {H H':Hp} {h h':Heap} {a:Addr} {o:HO}
theorem An.lt (x:An P w H h a o):a < h.objs.size:=by
 cases o with
 | lst xs=>obtain ⟨_,_,_,_,e⟩:=x;exact kF e
 | tup xs=>obtain ⟨_,_,_,p⟩:=x;exact p.tup.lt
 | dK kvs=>obtain ⟨_,_,_,_,o,_,_,e,_⟩:=x;exact kF e
 | dT kvs=>obtain ⟨_,_,_,_,o,_,_,e,_⟩:=x;exact kF e
 | set S n=>obtain ⟨o,_,_,_,e,_⟩:=x;exact kF e
 | ins C dx fs=>obtain ⟨_,_,_,e,_⟩:=x;exact kF e
 | own y=>obtain ⟨_,e⟩:=x;exact kF e
 | xd fs=>obtain ⟨_,⟨_,_,_,e,_⟩,_⟩:=x;exact kF e
 | rng lo hi=>obtain ⟨_,_,_,e⟩:=x;exact kF e
 | frz ob u=>obtain ⟨e,_⟩:=x;exact kF e
 | tbl ps=>exact kF (show h.get? a=some _ from x)
 | met f y=>exact kF (show h.get? a=some _ from x)
 | ext φ=>obtain ⟨_,⟨_,e⟩,_⟩:=x;exact kF e
theorem Paired.mapP {α β:Type} {F G:α->β->Prop}:∀ {l₁:List α} {l₂:List β},Paired F l₁ l₂->(∀ a b,F a b->G a b)->Paired G l₁ l₂
 | _,_,.nil,_=>.nil
 | _,_,.cons r t,f=>.cons (f _ _ r) (Paired.mapP t f)
theorem An.stay (x:An P w H h a o) (k:∀ b u,(b=a\/H b=some (.own a))->h.get? b=some u->h'.get? b=some u)
    (ho:∀ b,H b=some (.own a)->H' b=some (.own a)) (ht:∀ b xs,H b=some (.tup xs)->H' b=some (.tup xs)):An P w H' h' a o:=by
  induction o with
  | lst xs=>obtain ⟨z,its,n,r,e⟩:=x;exact ⟨z,its,n,r,k _ _ (.inl rfl) e⟩
  | tup xs=>obtain ⟨z,its,r,ob,e,c⟩:=x;exact ⟨z,its,r,ob,k _ _ (.inl rfl) e,c⟩
  | dK kvs=>obtain ⟨z,y,vs,r,ob,es,ep,e,c⟩:=x;exact ⟨z,y,vs,r,ob,es,ep,k _ _ (.inl rfl) e,c⟩
  | dT kvs =>
    obtain ⟨z,y,xs,r,ob,es,ep,e,c⟩:=x;exact ⟨z,y,xs,Paired.mapP r fun p q z=>⟨z.1,ht _ _ z.2.1,z.2.2⟩,ob,es,ep,k _ _ (.inl rfl) e,c⟩
  | set S n=>obtain ⟨ob,es,ep,t,e,c⟩:=x;exact ⟨ob,es,ep,t,k _ _ (.inl rfl) e,c⟩
  | ins C dx fs =>
    obtain ⟨d,z,ne,e,mA,⟨od,es,ep,e2,c⟩,r⟩:=x;exact ⟨ho _ d,z,ne,k _ _ (.inl rfl) e,mA,⟨od,es,ep,k _ _ (.inr d) e2,c⟩,r⟩
  | own y=>obtain ⟨ob,e⟩:=x;exact ⟨ob,k _ _ (.inl rfl) e⟩
  | xd fs=>obtain ⟨mA,⟨od,es,ep,e,c⟩,r⟩:=x;exact ⟨mA,⟨od,es,ep,k _ _ (.inl rfl) e,c⟩,r⟩
  | rng lo hi=>obtain ⟨t,u,v,e⟩:=x;exact ⟨t,u,v,k _ _ (.inl rfl) e⟩
  | frz ob u ih=>obtain ⟨e,q⟩:=x;exact ⟨k _ _ (.inl rfl) e,ih q⟩
  | tbl ps =>
    have e:h.get? a=some { cls:=.none,data:=.fields ps }:=x;show h'.get? a=some { cls:=.none,data:=.fields ps };exact k a _ (.inl rfl) e
  | met f y =>
    have e:h.get? a=some (W.methodObj (.ref f) (.ref y)):=x;show h'.get? a=some (W.methodObj (.ref f) (.ref y));exact k a _ (.inl rfl) e
  | ext φ=>obtain ⟨p,⟨o,e⟩,st⟩:=x;exact ⟨st _ _ p fun o q=>k _ _ (.inl rfl) q,⟨o,k _ _ (.inl rfl) e⟩,st⟩
theorem ER.lt (x:ER P w H h) (e:H a=some o):a < h.objs.size:=(x a o e).lt
theorem ER.fresh (x:ER P w H h) (e:h.objs.size<=a):H a=none:=by
 cases q:H a with
 | none=>rfl
 | some u=>exact absurd (kO (x.lt q) e) (lC _)
theorem ER.kept (x:ER P w H h) (k:∀ b u,h.get? b=some u->h'.get? b=some u):ER P w H h':=fun a o e =>
 (x a o e).stay (fun b u _ q=>k b u q) (fun _ q=>q) fun _ _ q=>q
theorem ER.laid (x:ER P w H h) (k:∀ b u,h.get? b=some u->h'.get? b=some u) (hp:h.objs.size<=a) (new:An P w (upd H a o) h' a o):ER P w (upd H a o) h':=fun b u e=>by
 have hn:=x.fresh hp
 by_cases hb:b=a
 ·subst hb;rw [BS] at e;cases e;exact new
 ·rw [AO hb] at e;exact (x b u e).stay (fun c v _ q=>k c v q) (fun c q=>by rw [AO (Bi q hn)];exact q) fun c xs q=>by rw [AO (Bi q hn)];exact q
end
def Rd (H:Hp) (a:Addr) (u:HO):Prop:=H a=some u\/∃ o,H a=some (.frz o u)
theorem Rd.ok {P:Program} {w:World} {H:Hp} {h:Heap} {a:Addr} {u:HO} (r:Rd H a u) (x:ER P w H h):An P w H h a u:=by
 rcases r with r | ⟨o,r⟩
 ·exact x a u r
 ·obtain ⟨_,q⟩:=x a _ r;exact q
def cY:Option HO->Prop
 | some (.lst _)=>True
 | some (.dK _)=>True
 | some (.dT _)=>True
 | some (.set _ _)=>True
 | some (.ins _ _ _)=>True
 | some (.ext _)=>True
 | _=>False
section
variable {P:Program} {w:World} {H:Hp} {h h':Heap} {x e:Addr} {o':HO}
theorem ER.write (ok:ER P w H h) (mu:cY (H x)) (he:e=x\/H e=some (.own x)) (k:∀ b u,b≠e->h.get? b=some u->h'.get? b=some u) (heo:∃ u,h'.get? e=some u)
    (new:An P w (upd H x o') h' x o'):ER P w (upd H x o') h':=fun b u q=>by
  have nown:∀ c y,H c=some (.own y)->c≠x:=fun c y r z=>by subst z;rw [r] at mu;exact mu
  have ntup:∀ c xs,H c=some (.tup xs)->c≠x:=fun c xs r z=>by subst z;rw [r] at mu;exact mu
  by_cases hb:b=x
  · subst hb;rw [BS] at q;cases q;exact new
  · rw [AO hb] at q
    by_cases hbe:b=e
    · have q':H b=some (.own x):=by
        rcases he with z | z
        · exact absurd (hbe.trans z) hb
        · rw [hbe];exact z
      rw [q] at q';cases q';obtain ⟨v,hv⟩:=heo;exact ⟨v,by rw [hbe];exact hv⟩
    · refine (ok b u q).stay (fun c v hc r=>k c v ?_ r) (fun c r=>by rw [AO (nown c b r)];exact r) fun c xs r=>by rw [AO (ntup c xs r)];exact r
      rcases hc with rfl | hc
      · exact hbe
      · rintro rfl;rcases he with z | z
        · exact nown c b hc z
        · rw [hc] at z;cases z;exact hb rfl
end
structure Un (fs ex:List Addr) (H H':Hp) (h h':Heap):Prop where
 keep:∀ b o,h.get? b=some o->H b=none->b∉fs->b∉ex->h'.get? b=some o
 slot:∀ b o,h.get? b=some o->H b=none->b∈fs->b∉ex->∃ sl,h'.get? b=some { o with slots:=sl }
 free:∀ b o,h.get? b=some o->H b=none->b∉ex->H' b=none
 there:∀ b o,h.get? b=some o->b∉ex->∃ o',h'.get? b=some o'
 tups:∀ b xs,H b=some (.tup xs)->H' b=some (.tup xs)
 frzs:∀ b o u,H b=some (.frz o u)->H' b=some (.frz o u)
 tbls:∀ b ps,H b=some (.tbl ps)->∃ more,H' b=some (.tbl (ps++more))
section
variable {fs fs' ex ex':List Addr} {H H1 H2:Hp} {h h1 h2 h':Heap} {a x e:Addr} {o:HO}
theorem Un.any (u:Un fs ex H H1 h h1) {b:Addr} {ob:Obj} (q:h.get? b=some ob) (n:H b=none) (hx:b∉ex):∃ sl,h1.get? b=some { ob with slots:=sl }:=by
 by_cases hb:b∈fs
 ·exact u.slot b ob q n hb hx
 ·exact ⟨ob.slots,u.keep b ob q n hb hx⟩
theorem Un.kept (k:∀ b u,h.get? b=some u->h'.get? b=some u):Un fs ex H H h h':=
 ⟨fun b ob q _ _ _=>k b ob q,fun b ob q _ _ _=>⟨ob.slots,k b ob q⟩,fun _ _ _ n _=>n,fun b ob q _=>⟨ob,k b ob q⟩,fun _ _ q=>q,fun _ _ _ q=>q,fun _ ps q=>⟨#[],by rw [q];simp⟩⟩
theorem Un.refl:Un fs ex H H h h:=Un.kept fun _ _ q=>q
theorem Un.laid (k:∀ b u,h.get? b=some u->h'.get? b=some u) (hp:h.objs.size<=a) (hn:H a=none):Un fs ex H (upd H a o) h h' where
 keep:=fun b u q _ _ _=>k b u q
 slot:=fun b u q _ _ _=>⟨u.slots,k b u q⟩
 free:=fun b u q n _=>by rw [AO (kP (kO (kF q) hp))];exact n
 there:=fun b u q _=>⟨u,k b u q⟩
 tups:=fun b xs q=>by rw [AO (Bi q hn)];exact q
 frzs:=fun b u xs q=>by rw [AO (Bi q hn)];exact q
 tbls:=fun b ps q=>⟨#[],by rw [AO (Bi q hn),q];simp⟩
theorem Un.write (mu:cY (H x)) (he:e=x\/H e=some (.own x)) (k:∀ b u,b≠e->h.get? b=some u->h'.get? b=some u) (heo:∃ u,h'.get? e=some u):Un fs ex H (upd H x o) h h':=by
 have hx:∀ b,H b=none->b≠x:=fun b n z=>by subst z;rw [n] at mu;exact mu
 have hb:∀ b,H b=none->b≠e:=fun b n z=>by
  subst z;rcases he with r | r
  ·exact hx b n r
  ·rw [n] at r;cases r
 have hm:∀ b u,H b=some u->¬ cY (some u)->b≠x:=fun b u q nm z=>by subst z;rw [q] at mu;exact nm mu
 refine ⟨fun b u q n _ _=>k b u (hb b n) q,fun b u q n _ _=>⟨u.slots,k b u (hb b n) q⟩,fun b u q n _=>by rw [AO (hx b n)];exact n,fun b u q _=>?_,
  fun b xs q=>by rw [AO (hm b _ q fun z=>z)];exact q,fun b u xs q=>by rw [AO (hm b _ q fun z=>z)];exact q,fun b ps q=>⟨#[],by rw [AO (hm b _ q fun z=>z),q];simp⟩⟩
 by_cases hbe:b=e
 ·subst hbe;exact heo
 ·exact ⟨u,k b u hbe q⟩
end
def gP (h:Heap) (H:Hp):List Addr:=(List.range h.objs.size).filter fun a=>(H a).isSome
def JY (h:Heap) (H:Hp):Heap:=W.hideAll h (gP h H)
theorem QL (h:Heap) (H:Hp):(JY h H).objs.size=h.objs.size:=W.hideAll_size _ _
theorem Sy {h:Heap} {H:Hp} {b:Addr} {o:Obj} (e:h.get? b=some o) (n:H b=none):(JY h H).get? b=some o:=
 W.hideAll_get _ e fun hm=>by
  have q:(H b).isSome=true:=(lg.mp hm).2;rw [n] at q;simp at q
theorem WJ {h:Heap} {H:Hp} {b:Addr} {o:Obj} (e:(JY h H).get? b=some o):h.get? b=some o/\H b=none:=by
 have e':h.get? b=some o:=W.of_hideAll (gP h H) e;refine ⟨e',?_⟩;cases q:H b with
 | none=>rfl
 | some x =>
  have hm:b∈gP h H:=lg.mpr ⟨lT.mpr (kF e'),by simp [q]⟩;have z:(JY h H).get? b=none:=W.hideAll_none (gP h H) hm;rw [z] at e;cases e
noncomputable def Xc (g h:Heap) (L:Addr):List (Addr×Obj):=(List.range h.objs.size).filterMap fun a=>if a=L\/(g.get? a).isSome=true then none else (h.get? a).map fun o=>(a,o)
def rest (g h:Heap) (L d:Addr):List (Addr×Obj):=(Xc g h L).filter fun p=>decide (p.1≠d)
structure Mod (K:W.Frag) (mg:Str->Option Value) (base:Heap):Prop where
 kin:K.In base
 glob:base.Ns mainGlobals mg
 blt:∃ mb,base.Ns builtinsNs mb/\∀ x:Str,x ≠ "__name__" -> mb x=bootBuiltins x
 nolimit:base.NoLimit
structure Cx where
 prog:Program
 w:World
 K:W.Frag
 mg:Str->Option Value
 base:Heap
 A:Around
 N:List Str
 s₀:Shared
 H₀:Hp
 env:Env
 outer:List Env
 stack:List Env
 ex:List Addr
 fn:Str->Bool
 calm:Bool
 pn:List (Addr×Obj)
 xe:Value->Shared->Prop
noncomputable def ON (l:List Env):List Addr:=l.filterMap (·.frame)
abbrev Cx.fs (X:Cx):List Addr:=ON X.outer
def gK (sc:Scope) (x:Str):Prop:=sc.names.lookup x=some .local\/sc.names.lookup x=some .cell\/sc.names.lookup x=some .free
def Loc (sc:Scope) (x:Str):Prop:=sc.names.lookup x=some .local\/sc.names.lookup x=some .cell
def Look (env:Env) (h:Heap) (m:Str->Option Value) (x:Str) (u:Value):Prop:=
 (env.kindOf x=some .local/\m x=some u)\/((env.kindOf x=some .cell\/env.kindOf x=some .free)/\∃ c,env.cells.lookup x=some c/\h.IsCell c (some u))
structure Cx.Ok (X:Cx):Prop where
 mod:Mod X.K X.mg X.base
 kind:X.env.scope.kind=.function
 glob:X.env.globals=mainGlobals
 blt:X.env.builtins=builtinsNs
 above:X.s₀.heap.objs.size<=X.env.locals
 inj:∀ x y c,X.env.cells.lookup x=some c->X.env.cells.lookup y=some c->x=y
 has:∀ x,(X.env.kindOf x=some .cell\/X.env.kindOf x=some .free)->∃ c,X.env.cells.lookup x=some c
 cab:∀ x c,X.fn x=true->X.env.cells.lookup x=some c->X.s₀.heap.objs.size<=c
 hd:X.calm=true->X.A.handled=none
 frames:X.A.frames=some X.stack
 stk:X.stack=X.outer\/(X.stack=X.env::X.outer/\X.env.frame=some X.env.locals)
 exf:∀ b∈X.ex,b≠X.env.locals/\∀ x c,X.env.cells.lookup x=some c->c≠b
 bs:∀ b o,X.base.get? b=some o->X.s₀.heap.get? b=some o/\X.H₀ b=none
 bsz:X.base.objs.size<=X.s₀.heap.objs.size
 noex:∀ b o,X.base.get? b=some o->b∉X.ex
 exfs:∀ b∈X.ex,b∉X.fs
 funs:X.s₀.heap.FunFrames X.base X.outer
 frf:∀ b∈X.fs,X.H₀ b=none
structure Inv (X:Cx) (pins:List (Addr×Obj)) (σ:List (Option V)) (H:Hp) (s:Shared):Prop where
 ok:X.Ok
 os:s.os=X.s₀.os
 bare:AllBare s.gens
 base:Un X.fs X.ex X.H₀ H X.s₀.heap s.heap
 loc:∃ m,s.heap.Ns X.env.locals m/\∀ (i:Nat) (x:Str) (v:V),X.N[i]?=some x->σ[i]?=some (some v)->gK X.env.scope x->∃ u,RelV v u/\Look X.env s.heap m x u
 cell:∀ x c,X.env.cells.lookup x=some c->∃ v,s.heap.IsCell c v
 free:H X.env.locals=none
 freeC:∀ x c,X.env.cells.lookup x=some c->H c=none
 pin:∀ p∈X.pn++pins,s.heap.get? p.1=some p.2/\H p.1=none/\p.1≠X.env.locals/\p.1∉X.fs/\∀ v,p.2.data≠.cell v
 hok:ER X.prog X.w H s.heap
 len:σ.length=X.N.length
section
variable {X:Cx} {pins:List (Addr×Obj)} {σ:List (Option V)} {H H':Hp} {s:Shared} {h':Heap}
theorem Cx.Ok.nofr (ok:X.Ok) {b:Addr} {o:Obj} (e:X.base.get? b=some o):b∉X.fs:=fun hb=>by
 have:=(ok.funs.mem hb).1;rw [e] at this;cases this
theorem Inv.bs (I:Inv X pins σ H s):∀ b o,X.base.get? b=some o->s.heap.get? b=some o/\H b=none:=fun b o e =>
 ⟨I.base.keep b o (I.ok.bs b o e).1 (I.ok.bs b o e).2 (I.ok.nofr e) (I.ok.noex b o e),I.base.free b o (I.ok.bs b o e).1 (I.ok.bs b o e).2 (I.ok.noex b o e)⟩
theorem Inv.bk (I:Inv X pins σ H s):∀ b o,X.base.get? b=some o->s.heap.get? b=some o:=fun b o e=>(I.bs b o e).1
theorem Inv.mod (I:Inv X pins σ H s):Mod X.K X.mg X.base:=I.ok.mod
theorem Inv.kIn (I:Inv X pins σ H s):X.K.In s.heap:=I.ok.mod.kin.keeps I.bk
theorem Inv.fr (I:Inv X pins σ H s):∃ m,Fr X.base X.env.locals s.heap m:=
 let ⟨m,hn,_⟩:=I.loc
 ⟨m,hn,I.bk,kM I.ok.bsz I.ok.above⟩
theorem Inv.lt (I:Inv X pins σ H s):X.env.locals < s.heap.objs.size:=let ⟨_,hn,_⟩:=I.loc;hn.lt
theorem Inv.sz (I:Inv X pins σ H s):X.s₀.heap.objs.size<=s.heap.objs.size:=kM I.ok.above (Nat.le_of_lt I.lt)
theorem Inv.nofs (I:Inv X pins σ H s) {a:Addr} (h:s.heap.objs.size<=a):a∉X.fs:=fun hb=>by
 obtain ⟨_,o,ho,_⟩:=I.ok.funs.mem hb;exact absurd (kO (kF ho) (kM I.sz h)) (lC _)
theorem Inv.cne (I:Inv X pins σ H s):∀ x c,X.env.cells.lookup x=some c->c≠X.env.locals:=fun x c e z=>by
 obtain ⟨v,o,ho,hd⟩:=I.cell x c e;obtain ⟨m,⟨o',es,ep,ho',hd',_⟩,_⟩:=I.loc;rw [z,ho'] at ho;cases ho;rw [hd'] at hd;cases hd
theorem Inv.funs (I:Inv X pins σ H s):s.heap.FunFrames X.base X.outer:=by
 have all:∀ (l:List Env),(∀ b∈ON l,b∈X.fs)->X.s₀.heap.FunFrames X.base l->s.heap.FunFrames X.base l:=by
  intro l
  induction l with
  | nil=>intro _ _;trivial
  | cons env r ih =>
   intro hs hl;obtain ⟨hk,⟨L,o,hf,hn,ho,hd⟩,hr⟩:=hl;have hL:L∈X.fs:=hs L (by unfold ON;rw [lK,hf];exact kA);obtain ⟨sl,e⟩:=I.base.slot L o ho (I.ok.frf L hL) hL fun z=>I.ok.exfs L z hL
   exact ⟨hk,⟨L,_,hf,hn,e,hd⟩,ih (fun b hb=>hs b (by unfold ON;rw [lK,hf];exact kB _ hb)) hr⟩
 exact all X.outer (fun _ hb=>hb) I.ok.funs
theorem Inv.stack (I:Inv X pins σ H s):s.heap.FunFrames X.base X.stack:=by
 rcases I.ok.stk with e | ⟨e,hf⟩
 ·rw [e];exact I.funs
 ·rw [e];obtain ⟨m,hn,_⟩:=I.loc;refine .cons (by rw [I.ok.kind];decide) hf hn ?_ I.funs;exact Heap.get?_none_of_le (kM I.ok.bsz I.ok.above)
theorem Inv.stkSub (I:Inv X pins σ H s):∀ b∈ON X.stack,b∈X.env.locals::X.fs:=fun b hb=>by
 rcases I.ok.stk with e | ⟨e,hf⟩
 ·rw [e] at hb;exact kB _ hb
 ·rw [e] at hb;unfold ON at hb;rw [lK,hf] at hb;exact hb
theorem Inv.stkFree (I:Inv X pins σ H s):∀ b∈ON X.stack,H b=none:=fun b hb=>by
 rcases kZ.mp (I.stkSub b hb) with e | hb
 ·rw [e];exact I.free
 ·obtain ⟨_,o,ho,_⟩:=I.ok.funs.mem hb;exact I.base.free b o ho (I.ok.frf b hb) fun z=>I.ok.exfs b z hb
theorem Inv.step {g':Array GenState} {t':Nat} {d':Drawn} {ch:List Addr} (I:Inv X pins σ H s)
    (hch:∀ b∈ch,(b∈X.ex\/X.s₀.heap.objs.size<=b)/\b≠X.env.locals/\(∀ x c,X.env.cells.lookup x=some c->c≠b)/\∀ p∈X.pn++pins,p.1≠b)
    (keep:∀ b o,b≠X.env.locals->b∉X.fs->b∉ch->s.heap.get? b=some o->H b=none->h'.get? b=some o)
    (slot:∀ b o,b≠X.env.locals->b∈X.fs->b∉ch->s.heap.get? b=some o->H b=none->∃ sl,h'.get? b=some { o with slots:=sl }) (free:∀ b o,b∉ch->s.heap.get? b=some o->H b=none->H' b=none)
    (there:∀ b o,b∉ch->s.heap.get? b=some o->∃ o',h'.get? b=some o')
    (tups:∀ b xs,H b=some (.tup xs)->H' b=some (.tup xs)) (frzs:∀ b o u,H b=some (.frz o u)->H' b=some (.frz o u)) (tbls:∀ b ps,H b=some (.tbl ps)->∃ more,H' b=some (.tbl (ps++more)))
    (ns:∀ m,s.heap.Ns X.env.locals m->h'.Ns X.env.locals m) (hok:ER X.prog X.w H' h') (hg:AllBare g') :
    Inv X pins σ H' { s with heap:=h',gens:=g',drawn:=d',toks:=t' }:=by
  have neL:∀ b o,X.s₀.heap.get? b=some o->b≠X.env.locals:=fun b o e=>kP (kO (kF e) I.ok.above)
  have neC:∀ b o,X.s₀.heap.get? b=some o->b∉X.ex->b∉ch:=fun b o e hx hb=>by
    rcases (hch b hb).1 with z | z
    · exact hx z
    · exact absurd (kO (kF e) z) (lC _)
  have cellK:∀ x c,X.env.cells.lookup x=some c->∀ v,s.heap.IsCell c v->h'.IsCell c v:=fun x c e v ⟨o,ho,hd⟩=>by
    have nch:c∉ch:=fun z=>(hch c z).2.2.1 x c e rfl
    by_cases hc:c∈X.fs
    · obtain ⟨sl,q⟩:=slot c o (I.cne x c e) hc nch ho (I.freeC x c e);exact ⟨_,q,hd⟩
    · exact ⟨o,keep c o (I.cne x c e) hc nch ho (I.freeC x c e),hd⟩
  refine ⟨I.ok,I.os,hg,⟨fun b o e n hb hx=>?_,fun b o e n hb hx=>?_,fun b o e n hx=>?_,fun b o e hx=>?_,fun b xs e=>tups b xs (I.base.tups b xs e),fun b o xs e=>frzs b o xs (I.base.frzs b o xs e),fun b ps e=>?_⟩,?_,fun x c e=>?_,?_,fun x c e=>?_,fun p hp=>?_,hok,I.len⟩
  · exact keep b o (neL b o e) hb (neC b o e hx) (I.base.keep b o e n hb hx) (I.base.free b o e n hx)
  · obtain ⟨sl,e1⟩:=I.base.slot b o e n hb hx;obtain ⟨sl',e2⟩:=slot b _ (neL b o e) hb (neC b o e hx) e1 (I.base.free b o e n hx);exact ⟨sl',e2⟩
  · obtain ⟨o',e1⟩:=I.base.there b o e hx;exact free b o' (neC b o e hx) e1 (I.base.free b o e n hx)
  · obtain ⟨o',e1⟩:=I.base.there b o e hx;exact there b o' (neC b o e hx) e1
  · obtain ⟨m1,e1⟩:=I.base.tbls b ps e;obtain ⟨m2,e2⟩:=tbls b _ e1;exact ⟨m1++m2,by rw [e2,Array.append_assoc]⟩
  · obtain ⟨m,hn,hl⟩:=I.loc;refine ⟨m,ns m hn,fun i x v e1 e2 e3=>?_⟩;obtain ⟨u,r,l⟩:=hl i x v e1 e2 e3;refine ⟨u,r,?_⟩;rcases l with l | ⟨k,c,e,z⟩
    · exact .inl l
    · exact .inr ⟨k,c,e,cellK x c e _ z⟩
  · obtain ⟨v,z⟩:=I.cell x c e;exact ⟨v,cellK x c e v z⟩
  · obtain ⟨m,⟨o,_,_,ho,_⟩,_⟩:=I.loc;exact free _ o (fun z=>(hch _ z).2.1 rfl) ho I.free
  · obtain ⟨v,o,ho,hd⟩:=I.cell x c e;exact free c o (fun z=>(hch c z).2.2.1 x c e rfl) ho (I.freeC x c e)
  · obtain ⟨e,n,ne,nf,d⟩:=I.pin p hp;have nch:p.1∉ch:=fun z=>(hch p.1 z).2.2.2 p hp rfl
    exact ⟨keep p.1 p.2 ne nf nch e n,free p.1 p.2 nch e n,ne,nf,d⟩
theorem Inv.un {t':Nat} (I:Inv X pins σ H s) (u:Un X.fs [] H H' s.heap h') (hok:ER X.prog X.w H' h'):Inv X pins σ H' { s with heap:=h',toks:=t' }:=by
 obtain ⟨m,⟨o,es,ep,ho,r⟩,_⟩:=id I.loc;obtain ⟨sl,hL⟩:=u.any ho I.free (by simp);exact I.step (g':=s.gens) (d':=s.drawn) (ch:=[]) (fun _ z=>nomatch z) (fun b o _ hb _ e n=>u.keep b o e n hb (by simp)) (fun b o _ hb _ e n=>u.slot b o e n hb (by simp)) (fun b o _ e n=>u.free b o e n (by simp)) (fun b o _ e=>u.there b o e (by simp)) u.tups u.frzs u.tbls (fun m' hm=>by
  obtain ⟨o',es',ep',ho',r'⟩:=hm;rw [ho] at ho';cases ho';exact ⟨_,es',ep',hL,r'⟩) hok I.bare
theorem Inv.call {g':Array GenState} {t':Nat} {d':Drawn} {ch:List Addr} (I:Inv X pins σ H s) (u:Un (ON X.stack) ch H H' s.heap h') (hok:ER X.prog X.w H' h') (hg:AllBare g')
    (hch:∀ b∈ch,(b∈X.ex\/X.s₀.heap.objs.size<=b)/\b≠X.env.locals/\(∀ x c,X.env.cells.lookup x=some c->c≠b)/\∀ p∈X.pn++pins,p.1≠b) :
    Inv X pins σ H' { s with heap:=h',gens:=g',drawn:=d',toks:=t' }:=by
  obtain ⟨m,⟨o,es,ep,ho,r⟩,_⟩:=id I.loc;obtain ⟨sl,hL⟩:=u.any ho I.free fun z=>(hch _ z).2.1 rfl
  exact I.step (ch:=ch) hch (fun b o hL hb hc e n=>u.keep b o e n (fun z=>(kZ.mp (I.stkSub b z)).elim hL hb) hc) (fun b o _ _ hc e n=>u.any e n hc) (fun b o hc e n=>u.free b o e n hc) (fun b o hc e=>u.there b o e hc) u.tups u.frzs u.tbls (fun m' hm=>by
    obtain ⟨o',es',ep',ho',r'⟩:=hm;rw [ho] at ho';cases ho';exact ⟨_,es',ep',hL,r'⟩) hok hg
theorem Inv.turned {t':Nat} {it:Addr} (I:Inv X pins σ H s) (k:∀ b o,b≠it->s.heap.get? b=some o->h'.get? b=some o) (hn:H it=none) (hL:it≠X.env.locals)
    (h1:it∈X.ex\/X.s₀.heap.objs.size<=it) (h2:∀ x c,X.env.cells.lookup x=some c->c≠it) (h3:∀ p∈X.pn++pins,p.1≠it):Inv X pins σ H { s with heap:=h',toks:=t' }:=by
  have nit:∀ b u,H b=some u->b≠it:=fun b u e z=>by rw [z,hn] at e;cases e
  refine I.step (g':=s.gens) (d':=s.drawn) (ch:=[it]) (fun b hb=>?_) (fun b o _ _ hc e _=>k b o (fun z=>hc (by simp [z])) e) (fun b o _ _ hc e _=>⟨o.slots,k b o (fun z=>hc (by simp [z])) e⟩) (fun _ _ _ _ n=>n)
    (fun b o hc e=>⟨o,k b o (fun z=>hc (by simp [z])) e⟩) (fun _ _ e=>e) (fun _ _ _ e=>e) (fun b ps e=>⟨#[],by rw [e];simp⟩) (fun m hm=>?_) (fun b u e=>?_) I.bare
  · have e:b=it:=by simpa using hb
    subst e;exact ⟨h1,hL,h2,h3⟩
  · obtain ⟨o,es,ep,ho,r⟩:=hm;exact ⟨o,es,ep,k _ o (Ne.symm hL) ho,r⟩
  · refine (I.hok b u e).stay (fun c v hc q=>k c v ?_ q) (fun _ q=>q) fun _ _ q=>q
    rcases hc with z | z
    · rw [z];exact nit b u e
    · exact nit c _ z
theorem Inv.tok (I:Inv X pins σ H s) (t:Nat):Inv X pins σ H { s with toks:=t }:=I.un (h':=s.heap) (t':=t) Un.refl I.hok
theorem Inv.kept {t':Nat} (I:Inv X pins σ H s) (k:∀ b u,s.heap.get? b=some u->h'.get? b=some u):Inv X pins σ H { s with heap:=h',toks:=t' }:=I.un (Un.kept k) (I.hok.kept k)
theorem Inv.laid {a:Addr} {o:HO} {t':Nat} (I:Inv X pins σ H s) (k:∀ b u,s.heap.get? b=some u->h'.get? b=some u) (hp:s.heap.objs.size<=a) (new:An X.prog X.w (upd H a o) h' a o) :
    Inv X pins σ (upd H a o) { s with heap:=h',toks:=t' }:=I.un (Un.laid k hp (I.hok.fresh hp)) (I.hok.laid k hp new)
theorem Inv.write {x e:Addr} {o:HO} {t':Nat} (I:Inv X pins σ H s) (mu:cY (H x)) (he:e=x\/H e=some (.own x)) (k:∀ b u,b≠e->s.heap.get? b=some u->h'.get? b=some u) (heo:∃ u,h'.get? e=some u)
    (new:An X.prog X.w (upd H x o) h' x o):Inv X pins σ (upd H x o) { s with heap:=h',toks:=t' }:=I.un (Un.write mu he k heo) (I.hok.write mu he k heo new)
theorem Inv.weak {σ':List (Option V)} (I:Inv X pins σ H s) (hl:σ'.length=σ.length) (w:∀ (i:Nat) v,σ'[i]?=some (some v)->σ[i]?=some (some v)):Inv X pins σ' H s:=
 ⟨I.ok,I.os,I.bare,I.base,let ⟨m,hn,hl'⟩:=I.loc;⟨m,hn,fun i x v e1 e2 e3=>hl' i x v e1 (w i v e2) e3⟩,I.cell,I.free,I.freeC,I.pin,I.hok,hl.trans I.len⟩
theorem Inv.pins_of {pins':List (Addr×Obj)} (I:Inv X pins σ H s) (h:∀ p∈pins',s.heap.get? p.1=some p.2/\H p.1=none/\p.1≠X.env.locals/\p.1∉X.fs/\∀ v,p.2.data≠.cell v):Inv X pins' σ H s:=
 ⟨I.ok,I.os,I.bare,I.base,I.loc,I.cell,I.free,I.freeC,fun p hp=>(kU.mp hp).elim (fun z=>I.pin p (kH _ z)) (h p),I.hok,I.len⟩
theorem Kq {N:List Str} (hN:N.Nodup) {i j:Nat} {x:Str} (a:N[i]?=some x) (b:N[j]?=some x):i=j:=by
 obtain ⟨h1,e1⟩:=jo.mp a;obtain ⟨h2,e2⟩:=jo.mp b;exact (mm hN).mp (e1.trans e2.symm)
theorem ID {M:Model} {A:Around} {E:Value->Shared->Prop} {i:Nat} {x:Str} {v:V} {u:Value} {Q:Unit->Shared->Prop} (I:Inv X pins σ H s) (hN:X.N.Nodup) (hi:X.N[i]?=some x) (hx:Loc X.env.scope x) (r:RelV v u)
    (h:∀ s',Inv X pins (σ.set i (some v)) H s'->(∃ a,Heap.SameBut a s.heap s'.heap/\(a=X.env.locals\/X.env.cells.lookup x=some a))->Q () s') (hf:X.fn x=true\/X.env.scope.names.lookup x=some .local:=by first | exact .inl rfl | exact .inr rfl | assumption):wpAny M A (storeName X.env x u) Q E s:=by
  obtain ⟨m,hn,hl⟩:=id I.loc;have hcls:(X.env.scope.kind == .class || (X.env.scope.kind == .module && X.env.locals != X.env.globals))=false:=by rw [I.ok.kind];rfl
  have hiσ:i < σ.length:=by rw [I.len];exact (jo.mp hi).1
  have cne:=I.cne;have tracked:∀ {a:Addr} {h':Heap},(∃ o,s.heap.get? a=some o/\H a=none)->Heap.SameBut a s.heap h'->ER X.prog X.w H h':=fun {a h'} ha hs b ob e=>by
    obtain ⟨_,_,hfree⟩:=ha;refine (I.hok b ob e).stay (fun c w' hc q=>(hs.2 c ?_).trans q) (fun _ q=>q) fun _ _ q=>q
    rintro rfl;rcases hc with rfl | hc
    · rw [hfree] at e;cases e
    · rw [hfree] at hc;cases hc
  rcases hx with hk | hk
  · refine wpAny_storeName_local hk hn (fun h' hn' hs=>?_) hcls;obtain ⟨oL,_,_,hoL,_⟩:=id hn;refine h _ ⟨I.ok,I.os,I.bare,⟨fun b o e n hb hx=>?_,fun b o e n hb hx=>?_,I.base.free,fun b o e hx=>?_,I.base.tups,I.base.frzs,I.base.tbls⟩,⟨_,hn',fun j y v' e1 e2 e3=>?_⟩,fun y c e=>?_,I.free,I.freeC,fun p hp=>?_,tracked ⟨oL,hoL,I.free⟩ hs,by simpa using I.len⟩ ⟨_,hs,.inl rfl⟩
    · exact (hs.2 b (kP (kO (kF e) I.ok.above))).trans (I.base.keep b o e n hb hx)
    · obtain ⟨sl,e1⟩:=I.base.slot b o e n hb hx;exact ⟨sl,(hs.2 b (kP (kO (kF e) I.ok.above))).trans e1⟩
    · obtain ⟨o',e1⟩:=I.base.there b o e hx;exact ⟨o',(hs.2 b (kP (kO (kF e) I.ok.above))).trans e1⟩
    · by_cases hj:j=i
      · subst hj;rw [hi] at e1;cases e1;rw [kW hiσ] at e2;cases e2;exact ⟨u,r,.inl ⟨hk,by simp⟩⟩
      · rw [kQ (Ne.symm hj)] at e2;obtain ⟨u',r',q⟩:=hl j y v' e1 e2 e3;refine ⟨u',r',?_⟩;rcases q with ⟨k,e⟩ | ⟨k,c,e,z⟩
        · refine .inl ⟨k,?_⟩;have:y≠x:=fun e=>hj (Kq hN e1 (e▸hi))
          simp [this,e]
        · exact .inr ⟨k,c,e,z.sameBut hs (cne y c e)⟩
    · obtain ⟨w',z⟩:=I.cell y c e;exact ⟨w',z.sameBut hs (cne y c e)⟩
    · obtain ⟨e,n,ne,nf,d⟩:=I.pin p hp;exact ⟨(hs.2 p.1 ne).trans e,n,ne,nf,d⟩
  · have hfn:X.fn x=true:=by
      rcases hf with z | z
      · exact z
      · rw [z] at hk;cases hk
    obtain ⟨c,hc⟩:=I.ok.has x (.inl hk);obtain ⟨w',z⟩:=I.cell x c hc;refine wpAny_storeName_cell I.ok.kind hk hc z (fun h' hc' hs=>?_);obtain ⟨oc,hoc,hocd⟩:=id z;refine h { s with heap:=h' } ⟨I.ok,I.os,I.bare,⟨fun b o e n hb hx=>?_,fun b o e n hb hx=>?_,I.base.free,fun b o e hx=>?_,I.base.tups,I.base.frzs,I.base.tbls⟩,⟨m,hn.sameBut hs (Ne.symm (cne x c hc)),fun j y v' e1 e2 e3=>?_⟩,fun y c' e=>?_,I.free,I.freeC,fun p hp=>?_,tracked ⟨oc,hoc,I.freeC x c hc⟩ hs,by simpa using I.len⟩ ⟨c,hs,.inr hc⟩
    · exact (hs.2 b (kP (kO (kF e) (I.ok.cab x c hfn hc)))).trans (I.base.keep b o e n hb hx)
    · obtain ⟨sl,e1⟩:=I.base.slot b o e n hb hx;exact ⟨sl,(hs.2 b (kP (kO (kF e) (I.ok.cab x c hfn hc)))).trans e1⟩
    · obtain ⟨o',e1⟩:=I.base.there b o e hx;exact ⟨o',(hs.2 b (kP (kO (kF e) (I.ok.cab x c hfn hc)))).trans e1⟩
    · by_cases hj:j=i
      · subst hj;rw [hi] at e1;cases e1;rw [kW hiσ] at e2;cases e2;exact ⟨u,r,.inr ⟨.inl hk,c,hc,hc'⟩⟩
      · rw [kQ (Ne.symm hj)] at e2;obtain ⟨u',r',q⟩:=hl j y v' e1 e2 e3;refine ⟨u',r',?_⟩;rcases q with q | ⟨k,c',e,z'⟩
        · exact .inl q
        · refine .inr ⟨k,c',e,z'.sameBut hs ?_⟩;rintro rfl;exact hj (Kq hN e1 (I.ok.inj _ _ _ e hc▸hi))
    · by_cases hcc:c'=c
      · subst hcc;exact ⟨_,hc'⟩
      · obtain ⟨w2,z2⟩:=I.cell y c' e;exact ⟨w2,z2.sameBut hs hcc⟩
    · obtain ⟨e,n,ne,nf,d⟩:=I.pin p hp;refine ⟨(hs.2 p.1 ?_).trans e,n,ne,nf,d⟩;intro q;rw [q,hoc] at e;have q':oc=p.2:=Option.some.inj e;exact d w' (by rw [<- q'];exact hocd)
theorem DQ {M:Model} {A:Around} {E:Value->Shared->Prop} {i:Nat} {x:Str} {v:V} {u:Value} {Q:Unit->Shared->Prop} (I:Inv X pins σ H s) (hN:X.N.Nodup) (hi:X.N[i]?=some x) (hx:Loc X.env.scope x) (r:RelV v u)
    (h:∀ s',Inv X pins (σ.set i (some v)) H s'->Q () s') (hf:X.fn x=true\/X.env.scope.names.lookup x=some .local:=by first | exact .inl rfl | exact .inr rfl | assumption):wpAny M A (storeName X.env x u) Q E s:=
  ID I hN hi hx r (fun s' I' _=>h s' I') hf
theorem Inv.call' {s':Shared} {ch:List Addr} (I:Inv X pins σ H s) (ho:s'.os=s.os) (u:Un (ON X.stack) ch H H' s.heap s'.heap) (hok:ER X.prog X.w H' s'.heap) (hg:AllBare s'.gens)
    (hch:∀ b∈ch,(b∈X.ex\/X.s₀.heap.objs.size<=b)/\b≠X.env.locals/\(∀ x c,X.env.cells.lookup x=some c->c≠b)/\∀ p∈X.pn++pins,p.1≠b):Inv X pins σ H' s':=by
  obtain ⟨h',g',d',t',o'⟩:=s';have e:o'=s.os:=ho;subst e;exact I.call (g':=g') (t':=t') (d':=d') u hok hg hch
end
abbrev XK:=Value->Option Addr->Hp->Prop
noncomputable abbrev St:=List (Option V)
abbrev VK:=V->Hp->Prop
abbrev TE:=St->Hp->VK->Prop
abbrev TT:=St->Hp->(Bool->Hp->Prop)->Prop
abbrev TA:=St->Hp->(List V->Hp->Prop)->Prop
structure Ends where
 nx:St->Hp->Prop
 rt:VK
 bk:St->Hp->Prop:=fun _ _=>False
 ct:St->Hp->Prop:=fun _ _=>False
abbrev TS:=Ends->St->Hp->Prop
def EP (X:Cx) (pins:List (Addr×Obj)) (σ:St) (Q:VK) (u:Value) (s':Shared):Prop:=∃ v H',Inv X pins σ H' s'/\RelV v u/\Q v H'
def TP (X:Cx) (pins:List (Addr×Obj)) (σ:St) (Q:Bool->Hp->Prop) (b:Bool) (s':Shared):Prop:=∃ H',Inv X pins σ H' s'/\Q b H'
def AP (X:Cx) (pins:List (Addr×Obj)) (σ:St) (Q:List V->Hp->Prop) (us:List Value) (s':Shared):Prop:=∃ vs H',Inv X pins σ H' s'/\AD vs us/\Q vs H'
def SP (X:Cx) (pins:List (Addr×Obj)) (D:Ends) (f:Flow) (s':Shared):Prop:=
 match f with
 | .next=>∃ σ' H',Inv X pins σ' H' s'/\D.nx σ' H'
 | .brk=>∃ σ' H',Inv X pins σ' H' s'/\D.bk σ' H'
 | .cont=>∃ σ' H',Inv X pins σ' H' s'/\D.ct σ' H'
 | .ret u=>∃ v σ' H',Inv X pins σ' H' s'/\RelV v u/\D.rt v H'
def PE (X:Cx) (e:Expr) (t:TE):Prop:=
 ∀ (pins:List (Addr×Obj)) (s:Shared) (σ:St) (H:Hp) (Q:VK),Inv X pins σ H s->t σ H Q->wpAny (model X.prog X.w) X.A (eval e X.env) (EP X pins σ Q) X.xe s
def PT (X:Cx) (e:Expr) (t:TT):Prop:=
 ∀ (pins:List (Addr×Obj)) (s:Shared) (σ:St) (H:Hp) (Q:Bool->Hp->Prop),Inv X pins σ H s->t σ H Q->wpAny (model X.prog X.w) X.A (isTrue e X.env (eval e X.env)) (TP X pins σ Q) X.xe s
def PW (X:Cx) (e:Expr) (t:TT):Prop:=
 ∀ (whole:Sem Value) (pins:List (Addr×Obj)) (s:Shared) (σ:St) (H:Hp) (Q:Bool->Hp->Prop),Inv X pins σ H s->t σ H Q->wpAny (model X.prog X.w) X.A (isTrue e X.env whole) (TP X pins σ Q) X.xe s
theorem PW.pt {X:Cx} {e:Expr} {t:TT} (h:PW X e t):PT X e t:=h _
def PA (X:Cx) (es:List Expr) (t:TA):Prop:=
 ∀ (pos:Pos) (pins:List (Addr×Obj)) (s:Shared) (σ:St) (H:Hp) (Q:List V->Hp->Prop),Inv X pins σ H s->t σ H Q->wpAny (model X.prog X.w) X.A (spliced (backTo pos (starEach es X.env))) (AP X pins σ Q) X.xe s
def PS (X:Cx) (st:Stmt) (t:TS):Prop:=
 ∀ (pins:List (Addr×Obj)) (s:Shared) (σ:St) (H:Hp) (D:Ends),Inv X pins σ H s->t D σ H->wpAny (model X.prog X.w) X.A (exec st X.env) (SP X pins D) X.xe s
def DM (X:Cx) (st:List Stmt) (t:TS):Prop:=
 ∀ (pins:List (Addr×Obj)) (s:Shared) (σ:St) (H:Hp) (D:Ends),Inv X pins σ H s->t D σ H->wpAny (model X.prog X.w) X.A (execs st X.env) (SP X pins D) X.xe s
theorem Ae {α:Type} {t:Sem α} {Q Q':α->Shared->Prop} {M:Model} {A:Around} {E:Value->Shared->Prop} {s:Shared} (h:wpAny M A t Q E s) (hQ:∀ a s,Q a s->Q' a s):wpAny M A t Q' E s:=wpAny_mono h hQ fun _ _ x=>x
section
variable {X:Cx}
theorem bin {a b:Expr} {ta tb:TE} (ha:PE X a ta) (hb:PE X b tb) {pins:List (Addr×Obj)} {s:Shared} {σ:St} {H:Hp} {R:V->V->Hp->Prop} (I:Inv X pins σ H s) (h:ta σ H fun x H1=>tb σ H1 fun y H2=>R x y H2)
    {α:Type} {Q:α->Shared->Prop} {f:Value->Value->Sem α}
    (hf:∀ v u s2 x y H2,Inv X pins σ H2 s2->RelV x v->RelV y u->R x y H2->wpAny (model X.prog X.w) X.A (f v u) Q X.xe s2) :
    wpAny (model X.prog X.w) X.A (eval a X.env) (fun v s₁=>wpAny (model X.prog X.w) X.A (eval b X.env) (fun u s₂=>wpAny (model X.prog X.w) X.A (f v u) Q X.xe s₂) X.xe s₁) X.xe s:=by
  refine Ae (ha pins s σ H _ I h) fun v s1 ⟨x,H1,I1,r1,q1⟩=>?_
  refine Ae (hb pins s1 σ H1 _ I1 q1) fun u s2 ⟨y,H2,I2,r2,q2⟩=>?_
  exact hf v u s2 x y H2 I2 r1 r2 q2
abbrev FB (i:Nat):TE:=fun σ H Q=>∃ v,σ[i]?=some (some v)/\Q v H
abbrev tC (v:V):TE:=fun _ H Q=>Q v H
theorem Zu {i:Nat} {x:Str} {pos:Pos} (hN:X.N[i]?=some x) (hv:gK X.env.scope x) (hd:(x == ("__debug__" : Str))=false:=by decide) (hcd:(x == ("__classdict__" : Str))=false:=by decide):PE X (.Name x pos) (FB i):=by
 intro pins s σ H Q I h;obtain ⟨v,e,h⟩:=h;obtain ⟨m,hn,hl⟩:=I.loc;obtain ⟨u,r,l⟩:=hl i x v hN e hv;have fin:EP X pins σ Q u s:=⟨v,H,I,r,h⟩;rcases l with ⟨hk,hm⟩ | ⟨hk,c,hc,hcell⟩
 ·exact wpAny_Name (wpAny_loadName_local I.ok.kind hk hn hm fin) hd
 ·rcases hk with hk | hk
  ·exact wpAny_Name (wpAny_loadName_cell I.ok.kind hk hc hcell fin) hd
  ·exact wpAny_Name (wpAny_loadName_free I.ok.kind hk hc hcell fin hcd) hd
theorem aB {i j pos}:PE X (.Constant (.int i) j pos) (tC (.int i)):=fun _ _ _ H _ I h=>wpAny_Constant_int ⟨.int i,H,I.tok _,⟨_,rfl⟩,h⟩
theorem eU {b j pos}:PE X (.Constant (.bool b) j pos) (tC (.bl b)):=fun _ _ _ H _ I h=>Constant_bool ⟨.bl b,H,I,rfl,h⟩
theorem Zz {j pos}:PE X (.Constant .none j pos) (tC .non):=fun _ _ _ H _ I h=>Constant_none ⟨.non,H,I,rfl,h⟩
theorem Zw {x j pos}:PE X (.Constant (.str x) j pos) (tC (.str x)):=fun _ _ _ H _ I h=>Calls.Constant_str ⟨.str x,H,I.tok _,⟨_,rfl⟩,h⟩
def Gl (X:Cx) (x:Str):Prop:=X.env.kindOf x=some .globalImplicit
theorem JR {E:Value->Shared->Prop} {pins:List (Addr×Obj)} {s:Shared} {σ:St} {H:Hp} {x:Str} {u:Value} {pos:Pos} {Q:Value->Shared->Prop} (I:Inv X pins σ H s) (hg:Gl X x) (hm:X.mg x=some u) (h:Q u s)
    (hd:(x == ("__debug__" : Str))=false:=by decide):wpAny (model X.prog X.w) X.A (eval (.Name x pos) X.env) Q E s:=
  Calls.Name_function_global I.ok.kind hg (Calls.loadGlobal_global (by rw [I.ok.glob];exact I.mod.glob.keeps I.bk) hm h) hd
theorem BZ {E:Value->Shared->Prop} {pins:List (Addr×Obj)} {s:Shared} {σ:St} {H:Hp} {x:Str} {u:Value} {pos:Pos} {Q:Value->Shared->Prop} (I:Inv X pins σ H s) (hg:Gl X x) (hm:X.mg x=none) (hv:bootBuiltins x=some u) (h:Q u s)
    (hn:x ≠ "__name__" := by decide) (hd:(x == ("__debug__" : Str))=false:=by decide):wpAny (model X.prog X.w) X.A (eval (.Name x pos) X.env) Q E s:=by
  obtain ⟨mb,h1,h2⟩:=I.mod.blt;exact Calls.Name_function_global I.ok.kind hg (Calls.loadGlobal_builtin (by rw [I.ok.glob];exact I.mod.glob.keeps I.bk) hm (by rw [I.ok.blt];exact h1.keeps I.bk) ((h2 x hn).trans hv) h) hd
theorem Vw {x:Str} {v:V} {u:Value} {pos:Pos} (hg:Gl X x) (hm:X.mg x=some u) (r:RelV v u) (hd:(x == ("__debug__" : Str))=false:=by decide):PE X (.Name x pos) (tC v):=
 fun _ _ _ H _ I h=>JR I hg hm ⟨v,H,I,r,h⟩ hd
theorem Vz {x:Str} {v:V} {u:Value} {pos:Pos} (hg:Gl X x) (hm:X.mg x=none) (hv:bootBuiltins x=some u) (r:RelV v u) (hn:x ≠ "__name__" := by decide) (hd:(x == ("__debug__" : Str))=false:=by decide):PE X (.Name x pos) (tC v):=
 fun _ _ _ H _ I h=>BZ I hg hm hv ⟨v,H,I,r,h⟩ hn hd
variable {a b:Expr} {ta tb:TE} {pos:Pos}
variable {tA Xp:TT} {rest:List Expr}
abbrev dI (t u:TT):TT:=fun σ H Q=>t σ H fun c H1=>if c=true then u σ H1 Q else Q false H1
abbrev jB (t u:TT):TT:=fun σ H Q=>t σ H fun c H1=>if c=true then Q true H1 else u σ H1 Q
abbrev cy (t:TT):TT:=fun σ H Q=>t σ H fun c H1=>Q (!c) H1
theorem Vd (ha:PT X a tA):PW X (.BoolOp .And [a] pos) tA:=by
 intro wh pins s σ H Q I h;refine isTrue_and (Ae (ha pins s σ H Q I h) fun c s1 e=>?_);cases c with
 | true=>exact isTrue_and_nil e
 | false=>exact e
theorem Zb (ha:PT X a tA):PW X (.BoolOp .Or [a] pos) tA:=by
 intro wh pins s σ H Q I h;refine isTrue_or (Ae (ha pins s σ H Q I h) fun c s1 e=>?_);cases c with
 | false=>exact isTrue_or_nil e
 | true=>exact e
theorem Zc (ha:PT X a tA) (hb:PW X (.BoolOp .And (b::rest) pos) Xp):PW X (.BoolOp .And (a::b::rest) pos) (dI tA Xp):=by
 intro wh pins s σ H Q I h;refine isTrue_and (Ae (ha pins s σ H _ I h) fun c s1 ⟨H1,I1,q1⟩=>?_);cases c with
 | true=>exact hb wh pins s1 σ H1 Q I1 q1
 | false=>exact ⟨H1,I1,q1⟩
theorem eI (ha:PT X a tA) (hb:PW X (.BoolOp .Or (b::rest) pos) Xp):PW X (.BoolOp .Or (a::b::rest) pos) (jB tA Xp):=by
 intro wh pins s σ H Q I h;refine isTrue_or (Ae (ha pins s σ H _ I h) fun c s1 ⟨H1,I1,q1⟩=>?_);cases c with
 | true=>exact ⟨H1,I1,q1⟩
 | false=>exact hb wh pins s1 σ H1 Q I1 q1
theorem Ze (ha:PT X a tA):PT X (.UnaryOp .Not a pos) (cy tA):=by
 intro pins s σ H Q I h;exact isTrue_not (ha pins s σ H (fun c H1=>Q (!c) H1) I h)
abbrev Xq (ta tb:TE):TE:=fun σ H Q=>ta σ H fun x H1=>∃ c,x=.bl c/\if c=true then tb σ H1 Q else Q (.bl false) H1
abbrev cx (ta tb:TE):TE:=fun σ H Q=>ta σ H fun x H1=>∃ c,x=.bl c/\if c=true then Q (.bl true) H1 else tb σ H1 Q
abbrev Xl (ta:TE):TE:=fun σ H Q=>ta σ H fun x H1=>∃ c,x=.bl c/\Q (.bl (!c)) H1
theorem Zx {op} {t:TE} (h:PE X a t):PE X (.BoolOp op [a] pos) t:=fun pins s σ H Q I hw=>BoolOp_one (h pins s σ H Q I hw)
theorem aC (ha:PE X a ta) (hb:PE X (.BoolOp .And (b::rest) pos) tb):PE X (.BoolOp .And (a::b::rest) pos) (Xq ta tb):=by
 intro pins s σ H Q I h;refine BoolOp_and (Ae (ha pins s σ H _ I h) fun v s1 ⟨x,H1,I1,r1,q1⟩=>?_);obtain ⟨c,rfl,q1⟩:=q1;cases r1;refine wpAny_truthy_bool ?_;cases c with
 | true=>exact hb pins s1 σ H1 Q I1 q1
 | false=>exact ⟨.bl false,H1,I1,rfl,q1⟩
theorem eQ (ha:PE X a ta) (hb:PE X (.BoolOp .Or (b::rest) pos) tb):PE X (.BoolOp .Or (a::b::rest) pos) (cx ta tb):=by
 intro pins s σ H Q I h;refine BoolOp_or (Ae (ha pins s σ H _ I h) fun v s1 ⟨x,H1,I1,r1,q1⟩=>?_);obtain ⟨c,rfl,q1⟩:=q1;cases r1;refine wpAny_truthy_bool ?_;cases c with
 | false=>exact hb pins s1 σ H1 Q I1 q1
 | true=>exact ⟨.bl true,H1,I1,rfl,q1⟩
theorem Zy (ha:PE X a ta):PE X (.UnaryOp .Not a pos) (Xl ta):=by
 intro pins s σ H Q I h;refine UnaryOp_ (Ae (ha pins s σ H _ I h) fun v s1 ⟨x,H1,I1,r1,q1⟩=>?_);obtain ⟨c,rfl,q1⟩:=q1;cases r1;exact not_of (wpAny_truthy_bool ⟨.bl (!c),H1,I1,rfl,q1⟩)
abbrev jC (t:TT) (ta tb:TE):TE:=fun σ H Q=>t σ H fun c H1=>if c=true then ta σ H1 Q else tb σ H1 Q
theorem Sa {c:Expr} (hc:PT X c tA) (ha:PE X a ta) (hb:PE X b tb):PE X (.IfExp c a b pos) (jC tA ta tb):=by
 intro pins s σ H Q I h;refine wpAny_IfExp (Ae (hc pins s σ H _ I h) fun d s1 ⟨H1,I1,q1⟩=>?_);cases d with
 | true=>exact ha pins s1 σ H1 Q I1 q1
 | false=>exact hb pins s1 σ H1 Q I1 q1
end
def CB (K:W.Frag) (H:Hp) (a:Addr) (xs:List V):Prop:=
 Rd H a (.lst xs) \/
  ∃ (o:Obj) (its:Array Value) (n:Nat),K.lookup a=some o/\o.cls=.type "list" /\ o.dict=none/\o.data=.seq its n/\its.size<=sizeLine/\AD xs its.toList
def Cr (K:W.Frag) (H:Hp) (a:Addr) (xs:List V):Prop:=
 Rd H a (.tup xs) \/
  ∃ (o:Obj) (its:Array Value) (n:Nat),K.lookup a=some o/\o.cls=.type "tuple" /\ o.data=.seq its n/\its.size<=sizeLine/\AD xs its.toList
noncomputable def ib:Value->Option V
 | .none=>some .non
 | .bool b=>some (.bl b)
 | .int i _=>some (.int i)
 | .str x _=>some (.str x)
 | .bytes b _=>some (.byt b)
 | .float b _=>some (.flt b)
 | .ref a=>some (.ref a)
 | .type n=>some (.ty n)
 | _=>none
theorem RelV.abs {x:V} {u:Value} (r:RelV x u):ib u=some x:=by
 cases x with
 | non=>cases r;rfl
 | bl _=>cases r;rfl
 | int _=>obtain ⟨t,rfl⟩:=r;rfl
 | str _=>obtain ⟨t,rfl⟩:=r;rfl
 | byt _=>obtain ⟨t,rfl⟩:=r;rfl
 | flt _=>obtain ⟨t,rfl⟩:=r;rfl
 | ref _=>cases r;rfl
 | ty _=>cases r;rfl
theorem RelV.inj {x y:V} {u:Value} (r:RelV x u) (q:RelV y u):x=y:=Option.some.inj (r.abs.symm.trans q.abs)
theorem AD.inj:∀ {xs ys:List V} {us:List Value},AD xs us->AD ys us->xs=ys
 | _,_,_,.nil,.nil=>rfl
 | _,_,_,.cons r t,.cons r' t'=>by rw [r.inj r',AD.inj t t']
section
variable {X:Cx} {pins:List (Addr×Obj)} {σ:St} {H:Hp} {s:Shared} {a:Addr} {xs ys:List V}
theorem Inv.list (I:Inv X pins σ H s) (h:CB X.K H a xs):∃ its:List Value,AD xs its/\PlainL s.heap a its.toArray/\xs.length<=sizeLine:=by
 rcases h with h | ⟨o,its,n,hk,hc,hd,hs,hz,r⟩
 ·obtain ⟨z,its,n,r,e⟩:=h.ok I.hok;exact ⟨its,r,⟨_,n,e,rfl,rfl,rfl⟩,z⟩
 ·refine ⟨its.toList,r,⟨o,n,I.kIn a o hk,hc,hd,by simpa using hs⟩,?_⟩;have e:=r.length;simp only [Array.length_toList] at e;omega
theorem Inv.tuple (I:Inv X pins σ H s) (h:Cr X.K H a xs):∃ its:List Value,AD xs its/\IsTup s.heap a its.toArray/\xs.length<=sizeLine:=by
 rcases h with h | ⟨o,its,n,hk,hc,hs,hz,r⟩
 ·obtain ⟨z,its,r,p⟩:=h.ok I.hok;exact ⟨its,r,p.tup,z⟩
 ·refine ⟨its.toList,r,⟨o,I.kIn a o hk,hc,n,by simpa using hs⟩,?_⟩;have e:=r.length;simp only [Array.length_toList] at e;omega
theorem Inv.list_inj (I:Inv X pins σ H s) (h:CB X.K H a xs) (h':CB X.K H a ys):xs=ys:=by
 obtain ⟨its,r,⟨o,n,e,_,_,d⟩,_⟩:=I.list h;obtain ⟨its',r',⟨o',n',e',_,_,d'⟩,_⟩:=I.list h';rw [e] at e';cases e';rw [d] at d';injection d' with d1 _
 have:its=its':=by simpa using congrArg Array.toList d1
 subst this;exact r.inj r'
theorem Inv.tuple_inj (I:Inv X pins σ H s) (h:Cr X.K H a xs) (h':Cr X.K H a ys):xs=ys:=by
 obtain ⟨its,r,⟨o,e,_,n,d⟩,_⟩:=I.tuple h;obtain ⟨its',r',⟨o',e',_,n',d'⟩,_⟩:=I.tuple h';rw [e] at e';cases e';rw [d] at d';injection d' with d1 _
 have:its=its':=by simpa using congrArg Array.toList d1
 subst this;exact r.inj r'
end
noncomputable abbrev Cx.wish (X:Cx) (E:Value->Shared->Prop):Cx:={ X with xe:=E }
noncomputable abbrev Cx.nox (X:Cx):Cx:=X.wish fun _ _=>False
theorem Cx.Ok.wish {X:Cx} (ok:X.Ok) (E:Value->Shared->Prop):(X.wish E).Ok:=
 ⟨ok.mod,ok.kind,ok.glob,ok.blt,ok.above,ok.inj,ok.has,ok.cab,ok.hd,ok.frames,ok.stk,ok.exf,ok.bs,ok.bsz,ok.noex,ok.exfs,ok.funs,ok.frf⟩
theorem Cx.Ok.unwish {X:Cx} {E:Value->Shared->Prop} (ok:(X.wish E).Ok):X.Ok:=
 ⟨ok.mod,ok.kind,ok.glob,ok.blt,ok.above,ok.inj,ok.has,ok.cab,ok.hd,ok.frames,ok.stk,ok.exf,ok.bs,ok.bsz,ok.noex,ok.exfs,ok.funs,ok.frf⟩
section
variable {X:Cx} {pins:List (Addr×Obj)} {σ:St} {H:Hp} {s:Shared} {E:Value->Shared->Prop}
theorem Inv.wish (I:Inv X pins σ H s) (E:Value->Shared->Prop):Inv (X.wish E) pins σ H s:=⟨I.ok.wish E,I.os,I.bare,I.base,I.loc,I.cell,I.free,I.freeC,I.pin,I.hok,I.len⟩
theorem Inv.unwish (I:Inv (X.wish E) pins σ H s):Inv X pins σ H s:=⟨I.ok.unwish,I.os,I.bare,I.base,I.loc,I.cell,I.free,I.freeC,I.pin,I.hok,I.len⟩
theorem SP.unwish {D:Ends} {f:Flow} {s':Shared} (h:SP (X.wish E) pins D f s'):SP X pins D f s':=by
 cases f with
 | next=>obtain ⟨σ',H',I,q⟩:=h;exact ⟨σ',H',I.unwish,q⟩
 | brk=>obtain ⟨σ',H',I,q⟩:=h;exact ⟨σ',H',I.unwish,q⟩
 | cont=>obtain ⟨σ',H',I,q⟩:=h;exact ⟨σ',H',I.unwish,q⟩
 | ret u=>obtain ⟨v,σ',H',I,r,q⟩:=h;exact ⟨v,σ',H',I.unwish,r,q⟩
theorem DM.nox {st:List Stmt} {t:TS} (h:DM X.nox st t):DM X st t:=fun pins s σ H D I hw =>
 wpAny_mono (h pins s σ H D (I.wish _) hw) (fun _ _ q=>q.unwish) fun _ _ z=>False.elim z
end
section
variable {X:Cx} {st:Stmt} {rest:List Stmt} {t u:TS} {e:Expr} {te:TE} {pos:Pos}
abbrev RX:TS:=fun D σ H=>D.nx σ H
abbrev gj (t u:TS):TS:=fun D σ H=>t { D with nx:=u D } σ H
theorem Vg:DM X [] RX:=fun _ _ σ H _ I h=>wpAny_execs_nil ⟨σ,H,I,h⟩
theorem Kd (h1:PS X st t) (h2:DM X rest u):DM X (st::rest) (gj t u):=by
 intro pins s σ H D I h;refine wpAny_execs_cons (Ae (h1 pins s σ H { D with nx:=u D } I h) fun f s1 q=>?_);cases f with
 | next =>
  obtain ⟨σ',H',I',q⟩:=q;exact h2 pins s1 σ' H' D I' q
 | ret v=>exact q
 | brk=>exact q
 | cont=>exact q
theorem Vf (h1:PS X st t):DM X [st] t:=by
 intro pins s σ H D I h;refine wpAny_execs_cons (Ae (h1 pins s σ H D I h) fun f s1 q=>?_);cases f with
 | next=>exact wpAny_execs_nil q
 | ret v=>exact q
 | brk=>exact q
 | cont=>exact q
abbrev ZE:TS:=fun D σ H=>D.bk σ H
abbrev dF:TS:=fun D σ H=>D.ct σ H
theorem Vh:PS X (.Pass pos) RX:=fun _ _ σ H _ I h=>wpAny_Pass ⟨σ,H,I,h⟩
theorem SK:PS X (.Break pos) ZE:=fun _ _ σ H _ I h=>wpAny_Break ⟨σ,H,I,h⟩
theorem Kg:PS X (.Continue pos) dF:=fun _ _ σ H _ I h=>wpAny_Continue ⟨σ,H,I,h⟩
theorem Inv.quiet {pins:List (Addr×Obj)} {σ:St} {H:Hp} {s:Shared} (I:Inv X pins σ H s):interactive X.env=false:=by simp [interactive,I.ok.kind]
theorem Zi {x j pos pos'}:PS X (.Expr (.Constant (.str x) j pos) pos') RX:=fun _ s σ H _ I h=>wpAny_Expr (Calls.Constant_str (show SP X _ _ .next { s with toks:=s.toks+1 } from ⟨σ,H,I.tok _,h⟩)) I.quiet
abbrev dE (te:TE):TS:=fun D σ H=>te σ H fun _ H1=>D.nx σ H1
theorem Vi (he:PE X e te) (hs:swapsWith e none pos.line X.env=pure false:=by rfl):PS X (.Expr e pos) (dE te):=by
 intro pins s σ H D I h;exact wpAny_Expr_any (Ae (he pins s σ H _ I h) fun v s1 ⟨x,H1,I1,r1,q1⟩=>⟨σ,H1,I1,q1⟩) I.quiet hs
abbrev gk (te:TE):TS:=fun D σ H=>te σ H D.rt
theorem Zg (he:PE X e te):PS X (.Return (some e) pos) (gk te):=by
 intro pins s σ H D I h;exact wpAny_Return_some (Ae (he pins s σ H _ I h) fun v s1 ⟨x,H1,I1,r1,q1⟩=>⟨x,σ,H1,I1,r1,q1⟩)
abbrev gp (c:TT) (t u:TS):TS:=fun D σ H=>c σ H fun b H1=>if b=true then t D σ H1 else u D σ H1
theorem eK {c:Expr} {a b:List Stmt} {tc:TT} (hc:PT X c tc) (ha:DM X a t) (hb:DM X b u):PS X (.If c a b pos) (gp tc t u):=by
 intro pins s σ H D I h;refine wpAny_If (Ae (hc pins s σ H _ I h) fun d s1 ⟨H1,I1,q1⟩=>?_);cases d with
 | true=>exact ha pins s1 σ H1 D I1 q1
 | false=>exact hb pins s1 σ H1 D I1 q1
end
abbrev TG:=V->St->Hp->(St->Hp->Prop)->Prop
abbrev NU:=List V->St->Hp->(St->Hp->Prop)->Prop
def PG (X:Cx) (target:Expr) (t:TG):Prop:=
 ∀ (pins:List (Addr×Obj)) (s:Shared) (σ:St) (H:Hp) (v:V) (u:Value) (Q:St->Hp->Prop),Inv X pins σ H s->RelV v u->t v σ H Q ->
  wpAny (model X.prog X.w) X.A (assign target X.env u) (fun _ s'=>∃ σ' H',Inv X pins σ' H' s'/\Q σ' H') X.xe s
def cX (X:Cx) (ts:List Expr) (t:NU):Prop:=
 ∀ (pins:List (Addr×Obj)) (s:Shared) (σ:St) (H:Hp) (vs:List V) (us:List Value) (Q:St->Hp->Prop),Inv X pins σ H s->AD vs us->t vs σ H Q ->
  wpAny (model X.prog X.w) X.A (assignInOrder ((assignEach ts X.env).map (·.2)) us) (fun _ s'=>∃ σ' H',Inv X pins σ' H' s'/\Q σ' H') X.xe s
abbrev Lm:=V->V->V->Hp->(Hp->Prop)->Prop
def Jw (X:Cx) (t:Lm):Prop:=
 ∀ (pins:List (Addr×Obj)) (s:Shared) (σ:St) (H:Hp) (o i v:V) (ov iv u:Value) (Q:Hp->Prop),Inv X pins σ H s->RelV o ov->RelV i iv->RelV v u->t o i v H Q ->
  wpAny (model X.prog X.w) X.A (setItem ov iv u) (fun _ s'=>∃ H',Inv X pins σ H' s'/\Q H') X.xe s
abbrev gV:=V->V->Hp->VK->Prop
def ij (X:Cx) (op:Operator) (t:gV):Prop:=
 ∀ (pins:List (Addr×Obj)) (s:Shared) (σ:St) (H:Hp) (x y:V) (v u:Value) (Q:VK),Inv X pins σ H s->RelV x v->RelV y u->t x y H Q ->
  wpAny (model X.prog X.w) X.A (inplaceOp op v u) (EP X pins σ Q) X.xe s
section
variable {X:Cx} {pos:Pos}
abbrev DX (i:Nat):TG:=fun v σ H Q=>Q (σ.set i (some v)) H
theorem Vt {i:Nat} {x:Str} (hN:X.N.Nodup) (hi:X.N[i]?=some x) (hx:Loc X.env.scope x) (hf:X.fn x=true\/X.env.scope.names.lookup x=some .local:=by first | exact .inl rfl | exact .inr rfl | assumption):PG X (.Name x pos) (DX i):=by
 intro pins s σ H v u Q I r h;exact wpAny_assign_Name (DQ I hN hi hx r (fun s' I'=>⟨_,H,I',h⟩) hf)
abbrev Wa:NU:=fun vs σ H Q=>vs=[]/\Q σ H
abbrev LC (t:TG) (u:NU):NU:=fun vs σ H Q=>∃ v r,vs=v::r/\t v σ H fun σ' H'=>u r σ' H' Q
theorem OD:cX X [] Wa:=by
 intro pins s σ H vs us Q I r h;obtain ⟨e,h⟩:=h;subst e;cases r;exact assignInOrder_nil ⟨σ,H,I,h⟩
theorem Gw {e:Expr} {es:List Expr} {t:TG} {u:NU} (h1:PG X e t) (h2:cX X es u)
    (hs:(assignEach (e::es) X.env).map (·.2)=assign e X.env::(assignEach es X.env).map (·.2):=by rfl):cX X (e::es) (LC t u):=by
  intro pins s σ H vs us Q I r h;obtain ⟨v,vr,e1,h⟩:=h;subst e1;cases r with
  | cons r rr =>
    rw [hs];refine assignInOrder_cons (Ae (h1 pins s σ H _ _ _ I r h) fun _ s1 ⟨σ1,H1,I1,q1⟩=>?_);exact h2 pins s1 σ1 H1 _ _ Q I1 rr q1
abbrev WZ (K:W.Frag) (n:Nat) (t:NU):TG:=fun v σ H Q=>∃ a xs,v=.ref a/\Cr K H a xs/\xs.length=n/\t xs σ H Q
theorem SY {es:List Expr} {k:Nat} {t:NU} {n:Nat} (hc:X.calm=true) (h:cX X es t)
    (hn:(assignEach es X.env).length=n:=by rfl) (hst:(assignEach es X.env).findIdx? (·.1)=none:=by rfl):PG X (.Tuple es k pos) (WZ X.K n t):=by
  intro pins s σ H v u Q I r hw;obtain ⟨a,xs,e1,hq,hl,hw⟩:=hw;subst e1;cases r;obtain ⟨its,rv,ht,hz⟩:=I.tuple hq;refine assign_Tuple_tuple (I.ok.hd hc) ht (by simp [hn,<- hl,rv.length]) hst fun h' hx=>?_
  have I1:Inv X pins σ H { s with heap:=h' }:=I.kept (t':=s.toks) fun b o e=>hx b o (kP (kF e)) e
  exact h pins _ σ H xs _ Q I1 (by simpa using rv) hw
abbrev TF (to ti:TE) (t:Lm):TG:=fun v σ H Q=>to σ H fun o H1=>ti σ H1 fun i H2=>t o i v H2 fun H3=>Q σ H3
theorem MP {o i:Expr} {to ti:TE} {t:Lm} (ho:PE X o to) (hi:PE X i ti) (hs:Jw X t)
    (ha:∀ v,assign (.Subscript o i pos) X.env v=(do
      let ov <- holding [v] (eval o X.env)
      let iv <- holding [v,ov] (eval i X.env)
      standAt pos
      holding [v,ov,iv] (setItem ov iv v)
      release [v,ov,iv] []):=by intro _;rfl):PG X (.Subscript o i pos) (TF to ti t):=by
  intro pins s σ H v u Q I r h;rw [ha];refine wpAny_bind (wpAny_holding (Ae (ho pins s σ H _ I h) fun ov s1 ⟨x,H1,I1,r1,q1⟩=>?_));refine wpAny_bind (wpAny_holding (Ae (hi pins s1 σ H1 _ I1 q1) fun iv s2 ⟨y,H2,I2,r2,q2⟩=>?_));refine wpAny_bind (wpAny_standAt (wpAny_bind (wpAny_holding (Ae (hs pins s2 σ H2 x y v ov iv u _ I2 r1 r2 r q2) fun _ s3 ⟨H3,I3,q3⟩=>?_))));exact wpAny_release ⟨σ,H3,I3,q3⟩
abbrev KF (te:TE) (g:TG):TS:=fun D σ H=>te σ H fun x H1=>g x σ H1 D.nx
theorem ML {tg e:Expr} {te:TE} {g:TG} (he:PE X e te) (hg:PG X tg g) (hs:swapsWithSole [tg] e pos.line X.env=pure false:=by rfl) (hw:swappedStores [tg] e X.env=pure none:=by rfl)
    (h1:(assignEach [tg] X.env).map (·.2)=[assign tg X.env]:=by rfl):PS X (.Assign [tg] e pos) (KF te g):=by
  intro pins s σ H D I h;refine wpAny_Assign_stores (Ae (he pins s σ H _ I h) fun v s1 ⟨x,H1,I1,r1,q1⟩=>?_) hs hw;rw [h1];exact Ae (hg pins s1 σ H1 x v _ I1 r1 q1) fun _ s2 q=>q
theorem Zf {i:Nat} {x:Str} {e:Expr} {te:TE} {pos':Pos} (hN:X.N.Nodup) (hi:X.N[i]?=some x) (hx:Loc X.env.scope x) (he:PE X e te) (hs:swapsWith e (some (.Name x pos')) pos.line X.env=pure false:=by rfl) (hf:X.fn x=true\/X.env.scope.names.lookup x=some .local:=by first | exact .inl rfl | exact .inr rfl | assumption) :
    PS X (.Assign [.Name x pos'] e pos) (KF te (DX i)):=by
  intro pins s σ H D I h;refine wpAny_Assign_Name (Ae (he pins s σ H _ I h) fun v s1 ⟨y,H1,I1,r1,q1⟩=>?_) hs;exact DQ I1 hN hi hx r1 (fun s2 I2=>⟨_,H1,I2,q1⟩) hf
abbrev gm (i j:Nat) (ta:TA):TS:=fun D σ H=>ta σ H fun vs H1=>∃ v w,vs=[v,w]/\D.nx ((σ.set i (some v)).set j (some w)) H1
theorem Zh {i j:Nat} {x y:Str} {a b:Expr} {ta:TA} {px py pt:Pos} {kt k2 pt2} (hc:X.calm=true) (hN:X.N.Nodup) (hi:X.N[i]?=some x) (hj:X.N[j]?=some y) (hij:i≠j)
    (hx:X.env.scope.names.lookup x=some .local) (hy:X.env.scope.names.lookup y=some .local) (ha:PA X [a,b] ta)
    (hw:swappedStores [.Tuple [.Name x px,.Name y py] kt pt] (.Tuple [a,b] k2 pt2) X.env=pure (some [x,y]))
    (hs:swapsWithSole [.Tuple [.Name x px,.Name y py] kt pt] (.Tuple [a,b] k2 pt2) pos.line X.env=pure false:=by rfl) :
    PS X (.Assign [.Tuple [.Name x px,.Name y py] kt pt] (.Tuple [a,b] k2 pt2) pos) (gm i j ta):=by
  intro pins s σ H D I h;rw [exec_Assign_arm];refine wpAny_bind (wpAny_standAt ?_);rw [hs];refine wpAny_bind (wpAny_pure ?_);rw [if_neg (by decide)];refine wpAny_bind (Tuple_ (Ae (ha _ pins s σ H _ I h) fun us s1 ⟨vs,H1,I1,r1,q1⟩=>?_));obtain ⟨v,w,e1,q1⟩:=q1;subst e1;obtain ⟨u1,u2,rfl,rv,rw'⟩:∃ u1 u2,us=[u1,u2]/\RelV v u1/\RelV w u2:=by
    cases r1 with
    | cons p q =>
      cases q with
      | cons p' q' =>
        cases q';exact ⟨_,_,rfl,p,p'⟩
  refine wpAny_newObj_type ?_ (by show 2<=sizeLine;decide)
  have I2:Inv X pins σ H1 { s1 with heap:=s1.heap.push { cls:=.type "tuple", data:=.seq [u1,u2].toArray } }:=I1.kept (t':=s1.toks) fun b o e=>jm _ e
  rw [hw];refine wpAny_bind (wpAny_pure ?_)
  show wpAny (model X.prog X.w) X.A (do rule "assign.swapped-stores"; let items <- unpackItems (.ref s1.heap.objs.size) 2 none;assignInOrder [fun v=>bindName X.env y v,fun v=>bindName X.env x v] items.reverse;pure Flow.next) _ _ _
  refine wpAny_bind (wpAny_rule (wpAny_bind (unpackItems_tuple (items:=#[u1,u2]) (I.ok.hd hc) (IsTup.new s1.heap _) fun h' hx'=>?_)));have I3:=I2.kept (h':=h') (t':=s1.toks) fun b o e=>hx' b o (kP (kF e)) e
  show wpAny _ _ (assignInOrder [fun v=>bindName X.env y v,fun v=>bindName X.env x v] [u2,u1] >>= fun _=>pure Flow.next) _ _ _;refine wpAny_bind (assignInOrder_cons (wpAny_bindName (DQ I3 hN hj (.inl hy) rw' (fun s2 I4=>?_) (.inr hy))));refine assignInOrder_cons (wpAny_bindName (DQ I4 hN hi (.inl hx) rv (fun s3 I5=>assignInOrder_nil (wpAny_pure ?_)) (.inr hx)));rw [List.set_comm _ _ (Ne.symm hij)] at I5;exact ⟨_,H1,I5,q1⟩
abbrev dH (i:Nat) (te:TE) (ti:gV):TS:=fun D σ H=>∃ x,σ[i]?=some (some x)/\te σ H fun y H1=>ti x y H1 fun z H2=>D.nx (σ.set i (some z)) H2
theorem SL {i:Nat} {x:Str} {e:Expr} {te:TE} {op:Operator} {ti:gV} {pos':Pos} (hN:X.N.Nodup) (hi:X.N[i]?=some x) (hx:Loc X.env.scope x) (he:PE X e te) (ho:ij X op ti) (hf:X.fn x=true\/X.env.scope.names.lookup x=some .local:=by first | exact .inl rfl | exact .inr rfl | assumption) :
    PS X (.AugAssign (.Name x pos') op e pos) (dH i te ti):=by
  intro pins s σ H D I h;obtain ⟨v,e1,h⟩:=h;obtain ⟨m,hn,hl⟩:=I.loc;have vis:gK X.env.scope x:=by rcases hx with k | k;exact .inl k;exact .inr (.inl k)
  obtain ⟨u,r,l⟩:=hl i x v hi e1 vis;refine wpAny_AugAssign_Name ?_;have go:wpAny (model X.prog X.w) X.A (eval e X.env) (fun w s₂=>wpAny (model X.prog X.w) X.A (inplaceOp op u w) (fun r s₃=>wpAny (model X.prog X.w) X.A (storeName X.env x r) (fun _=>SP X pins D .next) X.xe s₃) X.xe s₂) X.xe s:=by
    refine Ae (he pins s σ H _ I h) fun w s1 ⟨y,H1,I1,r1,q1⟩=>?_
    refine Ae (ho pins s1 σ H1 v y u w _ I1 r r1 q1) fun z s2 ⟨zv,H2,I2,r2,q2⟩=>?_
    exact DQ I2 hN hi hx r2 (fun s3 I3=>⟨_,H2,I3,q2⟩) hf
  rcases l with ⟨hk,hm⟩ | ⟨hk,c,hc,hcell⟩
  · exact wpAny_loadName_local I.ok.kind hk hn hm go
  · rcases hk with hk | hk
    · exact wpAny_loadName_cell I.ok.kind hk hc hcell go
    · rcases hx with k | k
      · have:X.env.scope.names.lookup x=some .free:=hk;rw [k] at this;cases this
      · have:X.env.scope.names.lookup x=some .free:=hk;rw [k] at this;cases this
def iB (f:Int->Int->Int):gV:=fun x y H Q=>∃ i j,x=.int i/\y=.int j/\Q (.int (f i j)) H
theorem aw:ij X .Add (iB fun i j=>i+j):=by
 intro pins s σ H x y v u Q I r1 r2 h;obtain ⟨i,j,e1,e2,q⟩:=h;subst e1;subst e2;obtain ⟨t,rfl⟩:=r1;obtain ⟨t',rfl⟩:=r2;exact iadd_int ⟨.int _,H,I.tok _,⟨_,rfl⟩,q⟩
theorem av:ij X .Sub (iB fun i j=>i - j):=by
 intro pins s σ H x y v u Q I r1 r2 h;obtain ⟨i,j,e1,e2,q⟩:=h;subst e1;subst e2;obtain ⟨t,rfl⟩:=r1;obtain ⟨t',rfl⟩:=r2;exact isub_int ⟨.int _,H,I.tok _,⟨_,rfl⟩,q⟩
end
section
variable {X:Cx} {pos:Pos}
def RU (c:TT) (tb:TS):TS:=fun D σ H=>∃ W:Nat->St->Hp->Prop,(∃ m,W m σ H)/\∀ m σ H,W m σ H ->
 c σ H fun b H1=>if b=true then ∃ N:St->Hp->Prop,(∀ σ' H',N σ' H'->∃ m',m' < m/\W m' σ' H')/\tb { D with nx:=N,ct:=N,bk:=D.nx } σ H1 else D.nx σ H1
theorem Ke {c:Expr} {body:List Stmt} {tc:TT} {tb:TS} (hp:PassesOwn (model X.prog X.w) X.A X.env X.xe) (hc:PT X c tc) (hb:DM X body tb):PS X (.While c body [] pos) (RU tc tb):=by
 intro pins s σ H D I h;obtain ⟨W,⟨m0,w0⟩,turn⟩:=h;refine wpAny_While (codeAny_whileLoop (fun n s'=>∃ σ' H',Inv X pins σ' H' s'/\W n σ' H') ?_ m0 ⟨σ,H,I,w0⟩);rintro n s1 ⟨σ1,H1,I1,w1⟩;refine wpAny_passesOwn hp (Ae (hc pins s1 σ1 H1 _ I1 (turn n σ1 H1 w1)) fun b s2 ⟨H2,I2,q2⟩=>?_);cases b with
 | true =>
  obtain ⟨N,hN,q2⟩:=q2;rw [if_pos rfl];refine wpAny_passesOwn hp (Ae (hb pins s2 σ1 H2 _ I2 q2) fun f s3 q3=>?_);cases f with
  | next =>
   obtain ⟨σ3,H3,I3,n3⟩:=q3;obtain ⟨m',hm,w3⟩:=hN σ3 H3 n3;exact ⟨m',hm,σ3,H3,I3,w3⟩
  | cont =>
   obtain ⟨σ3,H3,I3,n3⟩:=q3;obtain ⟨m',hm,w3⟩:=hN σ3 H3 n3;exact ⟨m',hm,σ3,H3,I3,w3⟩
  | brk=>exact q3
  | ret v=>exact q3
 | false =>
  rw [if_neg kI];exact wpAny_execs_nil ⟨σ1,H2,I2,q2⟩
end
structure It where
 go:Nat->Hp->Prop
 yld:Nat->Hp->V->Hp->Prop
 stop:Nat->Hp->Prop
def FpOk (X:Cx) (pins:List (Addr×Obj)) (H:Hp) (b:Addr):Prop:=
 H b=none/\b≠X.env.locals/\b∉X.fs/\(b∈X.ex\/X.s₀.heap.objs.size<=b)/\(∀ x c,X.env.cells.lookup x=some c->c≠b)/\∀ p∈X.pn++pins,p.1≠b
theorem Inv.fpOk {X:Cx} {pins:List (Addr×Obj)} {σ:St} {H H':Hp} {s:Shared} {b:Addr} (I:Inv X pins σ H s) (hb:s.heap.objs.size<=b) (hn:H' b=none):FpOk X pins H' b:=by
 refine ⟨hn,mE (kO I.lt hb),I.nofs hb,.inr (kM I.sz hb),fun x c e z=>?_,fun p hp z=>?_⟩
 ·obtain ⟨v,q⟩:=I.cell x c e;exact absurd (kO q.lt (by rw [z];exact hb)) (lC _)
 ·exact absurd (kO (kF (I.pin p hp).1) (by rw [z];exact hb)) (lC _)
structure Turn (P:Program) (w:World) (K:W.Frag) (tg:Expr) (J:It) (fp:List Addr) (it:Addr) (tn:Nat->Heap->Prop):Prop where
 mem:it∈fp
 obj:∀ i h,tn i h->∀ b∈fp,∃ o,h.get? b=some o/\∀ v,o.data≠.cell v
 keep:∀ i h h',tn i h->(∀ b∈fp,∀ o,h.get? b=some o->h'.get? b=some o)->tn i h'
 item:∀ (X:Cx),X.prog=P->X.w=w->X.K=K->X.calm=true->∀ (i:Nat) (pins:List (Addr×Obj)) (s:Shared) (σ:St) (H:Hp) (E:Value->Shared->Prop),Inv X pins σ H s->(∀ b∈fp,FpOk X pins H b)->tn i s.heap->J.go i H ->
  wpAny (model P w) X.A (pyNext (.ref it)) (fun r s1=>∃ u,r=some u /\
   wpAny (model P w) X.A (letOwnedTupleGo tg (.ref it) u) (fun _ s2=>∃ x H',Inv X pins σ H' s2/\RelV x u/\J.yld i H x H'/\tn (i+1) s2.heap/\∀ b∈fp,H' b=none) E s1) E s
 done:∀ (X:Cx),X.prog=P->X.w=w->X.K=K->X.calm=true->∀ (i:Nat) (pins:List (Addr×Obj)) (s:Shared) (σ:St) (H:Hp) (E:Value->Shared->Prop),Inv X pins σ H s->(∀ b∈fp,FpOk X pins H b)->tn i s.heap->J.stop i H ->
  wpAny (model P w) X.A (pyNext (.ref it)) (fun r s1=>r=none/\Inv X pins σ H s1) E s
 self:∀ (A:Around) (i:Nat) (s:Shared) (Q:Value->Shared->Prop) (E:Value->Shared->Prop),tn i s.heap->Q (.ref it) s->wpAny (model P w) A (pyIter (.ref it)) Q E s
abbrev TI:=St->Hp->(It->Hp->Prop)->Prop
def jT (X:Cx) (pins:List (Addr×Obj)) (σ:St) (tg:Expr) (R:It->Hp->Prop) (itv:Value) (s2:Shared):Prop:=
 ∃ (it:Addr) (fp:List Addr) (tn:Nat->Heap->Prop) (J:It) (H':Hp),itv=.ref it/\Inv X pins σ H' s2/\Turn X.prog X.w X.K tg J fp it tn/\tn 0 s2.heap/\(∀ b∈fp,FpOk X pins H' b)/\R J H'
def PI (X:Cx) (tg iter:Expr) (wi:TI):Prop:=
 ∀ (pins:List (Addr×Obj)) (s:Shared) (σ:St) (H:Hp) (R:It->Hp->Prop),Inv X pins σ H s->wi σ H R ->
  wpAny (model X.prog X.w) X.A (eval iter X.env) (fun v s1=>wpAny (model X.prog X.w) X.A (pyIter v) (jT X pins σ tg R) X.xe s1) X.xe s
theorem IX {M:Model} {A:Around} {E:Value->Shared->Prop} {s:Shared} {tg:Expr} {it:Addr} {u:Value} {o:Obj} {n:String} {vs:Array Value} {Q:Unit->Shared->Prop} (ho:s.heap.get? it=some o) (hc:o.cls=.type n) (hd:o.data=.fields vs)
    (hn:["enumerate", "zip", "dict_itemiterator", "dict_reverseitemiterator", "odict_iterator", "itertools.zip_longest", "itertools.pairwise"].contains n=false) (hQ:Q () s):wpAny M A (letOwnedTupleGo tg (.ref it) u) Q E s:=by
  unfold letOwnedTupleGo;cases tg<;>first
    | exact wpAny_pure hQ
    | (cases u<;>first
        | exact wpAny_pure hQ
        | (refine wpAny_bind (wpAny_load ho ?_)
           rw [hc,hd]
           show wpAny M A (if (["enumerate", "zip", "dict_itemiterator", "dict_reverseitemiterator", "odict_iterator", "itertools.zip_longest", "itertools.pairwise"].contains n && vs[0]? == some (rawInt _))=true then _ else _) Q E s
           rw [if_neg (by intro h;rw [hn,Bool.false_and] at h;cases h)];exact wpAny_pure hQ))
noncomputable def gb (K:W.Frag) (a:Addr):It:=
 ⟨fun i H=>∃ xs x,CB K H a xs/\xs[i]?=some x,fun i H x H'=>H'=H/\∀ xs,CB K H a xs->xs[i]?=some x,fun i H=>∃ xs,CB K H a xs/\xs.length<=i⟩
noncomputable def ik (K:W.Frag) (a:Addr):It:=
 ⟨fun i H=>∃ xs x,Cr K H a xs/\xs[i]?=some x,fun i H x H'=>H'=H/\∀ xs,Cr K H a xs->xs[i]?=some x,fun i H=>∃ xs,Cr K H a xs/\xs.length<=i⟩
noncomputable def gM (lo:Int) (n:Nat):It:=⟨fun i _=>i < n,fun i H x H'=>H'=H/\x=.int (lo+i),fun i _=>n<=i⟩
theorem Oy {P:Program} {w:World} {K:W.Frag} {tg:Expr} (a it:Addr):Turn P w K tg (gb K a) [it] it (fun i h=>h.IsListIter it a i) where
 mem:=by simp
 obj:=fun i h st b hb=>by
  have e:b=it:=by simpa using hb
  subst e;obtain ⟨o,e,c,d⟩:=st;exact ⟨o,e,fun v z=>by rw [d] at z;cases z⟩
 keep:=fun i h h' st k=>st.at fun o e=>k it (by simp) o e
 item:=by
  intro X hP hw hK hc i pins s σ H E I hf st hg;subst hP hw hK;obtain ⟨xs,x,hq,hx⟩:=hg;obtain ⟨its,rv,p,hz⟩:=I.list hq;obtain ⟨u,hu,ru⟩:=rv.get hx;obtain ⟨f0,f1,f2,f3,f4,f5⟩:=hf it (by simp);refine wpAny_pyNext_list_item st p.isList (x:=u) (by simpa using hu) fun h' st' sb=>?_
  have I1:Inv X pins σ H { s with heap:=h' }:=I.turned (t':=s.toks) (fun b o hb e=>(sb.2 b hb).trans e) f0 f1 f3 f4 f5;obtain ⟨o,e,c,d⟩:=id st';exact ⟨u,rfl,IX (s:={ s with heap:=h' }) e c d (by decide) ⟨x,H,I1,ru,⟨rfl,fun ys hy=>by rw [I.list_inj hy hq];exact hx⟩,st',fun b hb=>(hf b hb).1⟩⟩
 done:=by
  intro X hP hw hK hc i pins s σ H E I hf st hg;subst hP hw hK;obtain ⟨xs,hq,hx⟩:=hg;obtain ⟨its,rv,p,hz⟩:=I.list hq;obtain ⟨f0,f1,f2,f3,f4,f5⟩:=hf it (by simp);have hl:=rv.length;exact wpAny_pyNext_list_end (I.ok.hd hc) st p.isList (by simp;omega) fun h' eb=>⟨rfl,I.turned (t':=s.toks) (fun b o hb e=>eb b o hb e) f0 f1 f3 f4 f5⟩
 self:=fun _ _ _ _ _ st h=>wpAny_pyIter_listiter st h
theorem Lu {P:Program} {w:World} {K:W.Frag} {tg:Expr} (a it:Addr):Turn P w K tg (ik K a) [it] it (fun i h=>h.IsTupleIter it a i) where
 mem:=by simp
 obj:=fun i h st b hb=>by
  have e:b=it:=by simpa using hb
  subst e;obtain ⟨o,e,c,d⟩:=st;exact ⟨o,e,fun v z=>by rw [d] at z;cases z⟩
 keep:=fun i h h' st k=>st.at fun o e=>k it (by simp) o e
 item:=by
  intro X hP hw hK hc i pins s σ H E I hf st hg;subst hP hw hK;obtain ⟨xs,x,hq,hx⟩:=hg;obtain ⟨its,rv,p,hz⟩:=I.tuple hq;obtain ⟨u,hu,ru⟩:=rv.get hx;obtain ⟨f0,f1,f2,f3,f4,f5⟩:=hf it (by simp);refine wpAny_pyNext_tuple_item st (show s.heap.IsTuple a its.toArray from p) (x:=u) (by simpa using hu) fun h' st' sb=>?_
  have I1:Inv X pins σ H { s with heap:=h' }:=I.turned (t':=s.toks) (fun b o hb e=>(sb.2 b hb).trans e) f0 f1 f3 f4 f5;obtain ⟨o,e,c,d⟩:=id st';exact ⟨u,rfl,IX (s:={ s with heap:=h' }) e c d (by decide) ⟨x,H,I1,ru,⟨rfl,fun ys hy=>by rw [I.tuple_inj hy hq];exact hx⟩,st',fun b hb=>(hf b hb).1⟩⟩
 done:=by
  intro X hP hw hK hc i pins s σ H E I hf st hg;subst hP hw hK;obtain ⟨xs,hq,hx⟩:=hg;obtain ⟨its,rv,p,hz⟩:=I.tuple hq;obtain ⟨f0,f1,f2,f3,f4,f5⟩:=hf it (by simp);have hl:=rv.length;exact wpAny_pyNext_tuple_end (I.ok.hd hc) st (show s.heap.IsTuple a its.toArray from p) (by simp;omega) fun h' eb=>⟨rfl,I.turned (t':=s.toks) (fun b o hb e=>eb b o hb e) f0 f1 f3 f4 f5⟩
 self:=fun _ _ _ _ _ st h=>wpAny_pyIter_tupleiter st h
theorem Lv {P:Program} {w:World} {K:W.Frag} {tg:Expr} (it:Addr) (lo:Int) (n:Nat):Turn P w K tg (gM lo n) [it] it (fun i h=>IsRangeIter h it (lo+(i:Nat) * 1) ((n:Int) - (i:Nat)) 1) where
 mem:=by simp
 obj:=fun i h st b hb=>by
  have e:b=it:=by simpa using hb
  subst e;exact ⟨_,st,fun v z=>by
   have z':Data.fields _=Data.cell v:=z;cases z'⟩
 keep:=fun i h h' st k=>k it (by simp) _ st
 item:=by
  intro X hP hw hK hc i pins s σ H E I hf st hg;subst hP hw hK;obtain ⟨f0,f1,f2,f3,f4,f5⟩:=hf it (by simp);have W:=Walks.range (prog:=X.prog) (w:=X.w) (I.ok.hd hc) it lo 1 n;refine W.item i s _ _ hg st fun v h' tk hv st' kk=>?_
  obtain ⟨t,rfl⟩:=hv;have I1:Inv X pins σ H { s with heap:=h',toks:=tk }:=I.turned (fun b o hb e=>kk b o (by simpa using hb) e) f0 f1 f3 f4 f5
  refine ⟨_,rfl,IX (s:={ s with heap:=h',toks:=tk }) (n := "range_iterator") st' rfl rfl (by decide) ⟨.int (lo+i),H,I1,⟨t,?_⟩,⟨rfl,rfl⟩,st',fun b hb=>(hf b hb).1⟩⟩
  rw [Int.mul_one]
 done:=by
  intro X hP hw hK hc i pins s σ H E I hf st hg;subst hP hw hK;obtain ⟨f0,f1,f2,f3,f4,f5⟩:=hf it (by simp);exact wpAny_pyNext_range_end (I.ok.hd hc) st (by have:n<=i:=hg;omega) fun h' eb=>⟨rfl,I.turned (t':=s.toks) (fun b o hb e=>eb b o hb e) f0 f1 f3 f4 f5⟩
 self:=fun _ _ _ _ _ st h=>wpAny_pyIter_rangeiter st h
section
variable {X:Cx} {tg:Expr}
theorem SD {pins:List (Addr×Obj)} {σ:St} {H:Hp} {s:Shared} {R:It->Hp->Prop} {E:Value->Shared->Prop} {lo hi:Int} {t u v:Tok} {tk:Nat} (I:Inv X pins σ H s) (h1:-(2 ^ 62)<=lo) (h2:lo < 2 ^ 62) (h3:-(2 ^ 62)<=hi) (h4:hi < 2 ^ 62)
    (q:R (gM lo (hi - lo).toNat) H):wpAny (model X.prog X.w) X.A (pyIter (.ref s.heap.objs.size)) (jT X pins σ tg R) E { s with heap:=s.heap.push { cls:=.type "range", data:=.fields #[.int lo t,.int hi u,.int 1 v] },toks:=tk }:=by
  refine wpAny_pyIter_range (IsRange.new ..) (small_one h1 h2 h3 h4) ?_
  have I1:Inv X pins σ H { s with heap:=s.heap.push { cls:=.type "range", data:=.fields #[.int lo t,.int hi u,.int 1 v] },toks:=tk }:=I.kept fun b o e=>jm _ e
  refine ⟨(s.heap.push { cls:=.type "range", data:=.fields #[.int lo t,.int hi u,.int 1 v] }).objs.size,[(s.heap.push { cls:=.type "range", data:=.fields #[.int lo t,.int hi u,.int 1 v] }).objs.size],_,_,H,rfl,
    I1.kept (t':=tk) fun b o e=>jm _ e,Lv _ lo (hi - lo).toNat,?_,fun b hb=>?_,q⟩
  · have e1:lo+((0:Nat):Int) * 1=lo:=by simp
    have e2:(((hi - lo).toNat:Nat):Int) - ((0:Nat):Int)=Builtin.Range.rangeSize lo hi 1:=by rw [rangeSize_one];split<;>omega
    show IsRangeIter _ _ (lo+((0:Nat):Int) * 1) ((((hi - lo).toNat:Nat):Int) - ((0:Nat):Int)) 1;rw [e1,e2];exact kD _ rfl
  · have e:b=(s.heap.push { cls:=.type "range", data:=.fields #[.int lo t,.int hi u,.int 1 v] }).objs.size:=by simpa using hb
    subst e;exact I1.fpOk (ju _) (I1.hok.fresh (ju _))
abbrev fH (ta:TA):TI:=fun σ H R=>ta σ H fun vs H1=>∃ j:Int,vs=[.int j]/\-(2 ^ 62)<=j/\j < 2 ^ 62/\R (gM 0 j.toNat) H1
theorem PZ {a:Expr} {ta:TA} {p pos:Pos} (hg:Gl X "range") (hm:X.mg "range" = none) (ha:PA X [a] ta) (hs:starEach [a] X.env=[(false,eval a X.env)]:=by rfl):PI X tg (.Call (.Name "range" p) [a] [] pos) (fH ta):=by
 intro pins s σ H R I h;refine Call_ (BZ I hg hm boot_range (kX (Ae (ha pos pins s σ H _ I h) fun us s1 ⟨vs,H1,I1,r1,q1⟩=>?_) hs rfl));obtain ⟨j,e,q1,q2,q⟩:=q1;subst e;cases r1 with
 | cons r rr =>
  cases rr;obtain ⟨t,rfl⟩:=r;exact call_range_1 (SD I1 (by omega) (by omega) q1 q2 (by simpa using q))
abbrev gq (wi:TI) (g:TG) (tb:TS):TS:=fun D σ H=>wi σ H fun J H1=>∃ W:Nat->Nat->St->Hp->Prop,(∃ m,W 0 m σ H1)/\∀ i m σ H,W i m σ H ->
 (J.stop i H/\D.nx σ H)\/(J.go i H/\∃ N:St->Hp->Prop,(∀ σ' H',N σ' H'->∃ m',m' < m/\W (i+1) m' σ' H')/\∀ x H',J.yld i H x H'->g x σ H' fun σ2 H2=>tb { D with nx:=N,ct:=N,bk:=D.nx } σ2 H2)
noncomputable def JN (fp:List Addr) (h:Heap):List (Addr×Obj):=fp.filterMap fun b=>(h.get? b).map fun o=>(b,o)
theorem DC {fp:List Addr} {h:Heap} {b:Addr} {o:Obj} (hb:b∈fp) (e:h.get? b=some o):(b,o)∈JN fp h:=List.mem_filterMap.mpr ⟨b,hb,by rw [e];rfl⟩
theorem Ph {fp:List Addr} {h:Heap} {p:Addr×Obj} (hp:p∈JN fp h):p.1∈fp/\h.get? p.1=some p.2:=by
 obtain ⟨b,hb,e⟩:=List.mem_filterMap.mp hp;cases q:h.get? b with
 | none=>rw [q] at e;cases e
 | some o =>
  rw [q] at e;have e':(b,o)=p:=Option.some.inj e;subst e';exact ⟨hb,q⟩
theorem Inv.pinned {pins:List (Addr×Obj)} {σ:St} {H:Hp} {s:Shared} {fp:List Addr} (I:Inv X pins σ H s) (hf:∀ b∈fp,FpOk X pins H b) (ho:∀ b∈fp,∃ o,s.heap.get? b=some o/\∀ v,o.data≠.cell v):Inv X (pins++JN fp s.heap) σ H s:=
 I.pins_of fun p hp=>(kU.mp hp).elim (fun z=>I.pin p (jw _ z)) fun z=>by
  obtain ⟨hb,e⟩:=Ph z;obtain ⟨f0,f1,f2,_⟩:=hf p.1 hb;obtain ⟨o,e',d⟩:=ho p.1 hb;rw [e] at e';cases e';exact ⟨e,f0,f1,f2,d⟩
theorem Inv.unpinned {pins pl:List (Addr×Obj)} {σ:St} {H:Hp} {s:Shared} (I:Inv X (pins++pl) σ H s):Inv X pins σ H s:=I.pins_of fun p hp=>I.pin p (jw _ (kH _ hp))
theorem SJ {iter:Expr} {body:List Stmt} {wi:TI} {g:TG} {tb:TS} {pos:Pos} (hp:PassesOwn (model X.prog X.w) X.A X.env X.xe) (hc:X.calm=true) (hi:PI X tg iter wi) (hg:PG X tg g) (hb:DM X body tb)
    (hs:∀ x,foldedSetIterable iter X.env x=pure x:=by intro _;rfl):PS X (.For tg iter body [] pos) (gq wi g tb):=by
  intro pins s σ H D I h;refine wpAny_For (Ae (hi pins s σ H _ I h) fun v s1 h1=>Ae h1 fun itv s2 h2=>?_) hs;obtain ⟨it,fp,tn,J,H2,e,I2,T,st2,f2,W,⟨m0,w0⟩,turn⟩:=h2;subst e
  -- what stays true of the iterator's objects through the loop
  have stat:∀ {H':Hp},(∀ b∈fp,H' b=none)->∀ b∈fp,FpOk X pins H' b:=fun hn b hb=>⟨hn b hb,(f2 b hb).2⟩
  refine codeAny_forLoop_any (fun n s'=>∃ i σ' H',Inv X pins σ' H' s'/\tn i s'.heap/\(∀ b∈fp,H' b=none)/\W i n σ' H') ?_ m0 ⟨0,σ,H2,I2,st2,fun b hb=>(f2 b hb).1,w0⟩;rintro n s3 ⟨i,σ3,H3,I3,st3,fr3,w3⟩;rcases turn i n σ3 H3 w3 with ⟨stop,qn⟩ | ⟨go,N,hN,step⟩
  · refine wpAny_passesOwn hp (Ae (T.done X rfl rfl rfl hc i pins s3 σ3 H3 X.xe I3 (stat fr3) st3 stop) fun r s4 ⟨hr,I4⟩=>?_);subst hr;exact wpAny_execs_nil ⟨σ3,H3,I4,qn⟩
  · refine wpAny_passesOwn hp (Ae (T.item X rfl rfl rfl hc i pins s3 σ3 H3 X.xe I3 (stat fr3) st3 go) fun r s4 ⟨u,hr,h4⟩=>?_);subst hr;refine wpAny_passesOwn hp (Ae h4 fun _ s5 ⟨x,H5,I5,r5,y5,st5,fr5⟩=>?_);have I5':=I5.pinned (stat fr5) (T.obj _ _ st5);refine wpAny_passesOwn hp (Ae (hg _ s5 σ3 H5 x u _ I5' r5 (step x H5 y5)) fun _ s6 ⟨σ6,H6,I6,q6⟩=>?_);refine wpAny_passesOwn hp (Ae (hb _ s6 σ6 H6 _ I6 q6) fun f s7 q7=>?_);have again:∀ {σ7:St} {H7:Hp},Inv X (pins++JN fp s5.heap) σ7 H7 s7->N σ7 H7->∃ m,m < n/\∃ i σ' H',Inv X pins σ' H' s7/\tn i s7.heap/\(∀ b∈fp,H' b=none)/\W i m σ' H':=fun {σ7 H7} I7 n7=>by
      obtain ⟨m',hm,w7⟩:=hN σ7 H7 n7;refine ⟨m',hm,i+1,σ7,H7,I7.unpinned,T.keep _ _ _ st5 fun b hb o e=>(I7.pin (b,o) (jw _ (jw _ (DC hb e)))).1,fun b hb=>?_,w7⟩;obtain ⟨o,e,d⟩:=T.obj _ _ st5 b hb;exact (I7.pin (b,o) (jw _ (jw _ (DC hb e)))).2.1
    cases f with
    | next=>obtain ⟨σ7,H7,I7,n7⟩:=q7;exact again I7 n7
    | cont=>obtain ⟨σ7,H7,I7,n7⟩:=q7;exact again I7 n7
    | brk=>obtain ⟨σ7,H7,I7,q7⟩:=q7;exact ⟨σ7,H7,I7.unpinned,q7⟩
    | ret v=>obtain ⟨x7,σ7,H7,I7,r7,q7⟩:=q7;exact ⟨x7,σ7,H7,I7.unpinned,r7,q7⟩
end
abbrev R2:=V->V->Hp->VK->Prop
def CQ (X:Cx) (f:Value->Value->Sem Value) (r:R2):Prop:=
 ∀ (pins:List (Addr×Obj)) (s:Shared) (σ:St) (H:Hp) (x y:V) (v u:Value) (Q:VK),Inv X pins σ H s->RelV x v->RelV y u->r x y H Q ->
  wpAny (model X.prog X.w) X.A (f v u) (EP X pins σ Q) X.xe s
def ie (X:Cx) (f:Value->Sem Value) (r:V->Hp->VK->Prop):Prop:=
 ∀ (pins:List (Addr×Obj)) (s:Shared) (σ:St) (H:Hp) (x:V) (v:Value) (Q:VK),Inv X pins σ H s->RelV x v->r x H Q ->
  wpAny (model X.prog X.w) X.A (f v) (EP X pins σ Q) X.xe s
def BC (X:Cx) (f:Value) (r:List V->Hp->VK->Prop):Prop:=
 ∀ (pins:List (Addr×Obj)) (s:Shared) (σ:St) (H:Hp) (xs:List V) (us:List Value) (Q:VK),Inv X pins σ H s->AD xs us->r xs H Q ->
  wpAny (model X.prog X.w) X.A (call f us) (EP X pins σ Q) X.xe s
def ig (X:Cx) (r:V->Hp->(Bool->Hp->Prop)->Prop):Prop:=
 ∀ (pins:List (Addr×Obj)) (s:Shared) (σ:St) (H:Hp) (x:V) (v:Value) (Q:Bool->Hp->Prop),Inv X pins σ H s->RelV x v->r x H Q ->
  wpAny (model X.prog X.w) X.A (truthy v) (TP X pins σ Q) X.xe s
abbrev gQ (r:R2) (ta tb:TE):TE:=fun σ H Q=>ta σ H fun x H1=>tb σ H1 fun y H2=>r x y H2 Q
abbrev jV (r:V->Hp->VK->Prop) (ta:TE):TE:=fun σ H Q=>ta σ H fun x H1=>r x H1 Q
def rI (C:Int->Int->Prop) (g:Int->Int->V):R2:=fun x y H Q=>∃ i j,x=.int i/\y=.int j/\C i j/\Q (g i j) H
def PQ (g:Int->Int->V):R2:=fun x y H Q=>∃ i j,x=.int i/\y=.int j/\Q (g i j) H
def rU (g:Int->V):V->Hp->VK->Prop:=fun x H Q=>∃ i,x=.int i/\Q (g i) H
section
variable {X:Cx} {a b c:Expr} {ta tb tc:TE} {pos:Pos}
theorem cF (ha:PE X a ta) (hb:PE X b tb) {pins:List (Addr×Obj)} {s:Shared} {σ:St} {H:Hp} {R:V->V->Hp->Prop} (I:Inv X pins σ H s)
    (h:ta σ H fun x H1=>tb σ H1 fun y H2=>R x y H2) {Q:Value->Shared->Prop} {f:Value->Value->Sem Value}
    (hf:∀ v u s2 x y H2,Inv X pins σ H2 s2->RelV x v->RelV y u->R x y H2->wpAny (model X.prog X.w) X.A (f v u) Q X.xe s2) :
    wpAny (model X.prog X.w) X.A (eval a X.env) (fun v s₁=>wpAny (model X.prog X.w) X.A (eval b X.env) (fun u s₂=>wpAny (model X.prog X.w) X.A (f v u) Q X.xe s₂) X.xe s₁) X.xe s:=by
  refine Ae (ha pins s σ H _ I h) fun v s1 ⟨x,H1,I1,r1,q1⟩=>?_
  refine Ae (hb pins s1 σ H1 _ I1 q1) fun u s2 ⟨y,H2,I2,r2,q2⟩=>?_
  exact hf v u s2 x y H2 I2 r1 r2 q2
theorem eR {op:Operator} {r:R2} (ho:CQ X (binaryOp op) r) (ha:PE X a ta) (hb:PE X b tb):PE X (.BinOp a op b pos) (gQ r ta tb):=by
 intro pins s σ H Q I h;exact wpAny_BinOp (cF ha hb I h fun v u s2 x y H2 I2 rx ry q=>ho pins s2 σ H2 x y v u Q I2 rx ry q)
theorem eO {op:UnaryOp} {r:V->Hp->VK->Prop} (ho:ie X (unaryOp op) r) (ha:PE X a ta):PE X (.UnaryOp op a pos) (jV r ta):=by
 intro pins s σ H Q I h;exact UnaryOp_ (Ae (ha pins s σ H _ I h) fun v s1 ⟨x,H1,I1,r1,q1⟩=>ho pins s1 σ H1 x v Q I1 r1 q1)
theorem gR {f:Value->Value->Sem Value} {C:Int->Int->Prop} {g:Int->Int->Int}
    (rule:∀ (i j:Int) (t u:Tok) (s:Shared) (Q:Value->Shared->Prop) (E:Value->Shared->Prop),C i j->Q (.int (g i j) s.toks) { s with toks:=s.toks+1 }->wpAny (model X.prog X.w) X.A (f (.int i t) (.int j u)) Q E s) :
    CQ X f (rI C fun i j=>.int (g i j)):=by
  intro pins s σ H x y v u Q I rx ry h;obtain ⟨i,j,rfl,rfl,hc,q⟩:=h;obtain ⟨t,rfl⟩:=rx;obtain ⟨t',rfl⟩:=ry;exact rule i j t t' s _ _ hc ⟨.int (g i j),H,I.tok _,⟨_,rfl⟩,q⟩
theorem ee {f:Value->Value->Sem Value} {g:Int->Int->Int}
    (rule:∀ (i j:Int) (t u:Tok) (s:Shared) (Q:Value->Shared->Prop) (E:Value->Shared->Prop),Q (.int (g i j) s.toks) { s with toks:=s.toks+1 }->wpAny (model X.prog X.w) X.A (f (.int i t) (.int j u)) Q E s) :
    CQ X f (PQ fun i j=>.int (g i j)):=by
  intro pins s σ H x y v u Q I rx ry h;obtain ⟨i,j,rfl,rfl,q⟩:=h;obtain ⟨t,rfl⟩:=rx;obtain ⟨t',rfl⟩:=ry;exact rule i j t t' s _ _ ⟨.int (g i j),H,I.tok _,⟨_,rfl⟩,q⟩
theorem WH {f:Value->Value->Sem Value} {g:Int->Int->Bool}
    (rule:∀ (i j:Int) (t u:Tok) (s:Shared) (Q:Value->Shared->Prop) (E:Value->Shared->Prop),Q (.bool (g i j)) s->wpAny (model X.prog X.w) X.A (f (.int i t) (.int j u)) Q E s) :
    CQ X f (PQ fun i j=>.bl (g i j)):=by
  intro pins s σ H x y v u Q I rx ry h;obtain ⟨i,j,rfl,rfl,q⟩:=h;obtain ⟨t,rfl⟩:=rx;obtain ⟨t',rfl⟩:=ry;exact rule i j t t' s _ _ ⟨.bl (g i j),H,I,rfl,q⟩
def iq (i j:Int):Prop:=0 < j/\j < 1073741824
def il (i j:Int):Prop:=0<=j/\j<=1000000/\i.natAbs < 2 ^ 64
def Xf (i j:Int):Prop:=(-(2 ^ 64) < i/\i < 2 ^ 64)\/(-(2 ^ 64) < j/\j < 2 ^ 64)
theorem Xf.ok {i j:Int} (h:Xf i j):IntMulOk i j:=by
 rcases h with ⟨h1,h2⟩ | ⟨h1,h2⟩
 ·exact .of_left (intBits_le_64 h1 h2)
 ·exact .of_right (intBits_le_64 h1 h2)
theorem aQ:CQ X (binaryOp .Add) (PQ fun i j=>.int (i+j)):=ee fun _ _ _ _ _ _ _ q=>add_int q
theorem aF:CQ X (binaryOp .Sub) (PQ fun i j=>.int (i - j)):=ee fun _ _ _ _ _ _ _ q=>sub_int q
theorem aI:CQ X (binaryOp .Mult) (rI Xf fun i j=>.int (i * j)):=gR fun _ _ _ _ _ _ _ hc q=>mul_int q hc.ok
theorem WB:CQ X (binaryOp .FloorDiv) (rI iq fun i j=>.int (i / j)):=gR fun i j _ _ _ _ _ hc q=>by
 have h1:(0:Int) < j:=hc.1;have h2:j < 1073741824:=hc.2;exact floordiv_int (by omega) (by rw [Int.fdiv_eq_ediv_of_nonneg i (by omega)];exact q) (.inl (PyProof.noPylong_small (by omega)))
theorem aJ:CQ X (binaryOp .Mod) (rI (fun _ j=>0 < j) fun i j=>.int (i % j)):=gR fun i j _ _ _ _ _ hc q=>by
 have h1:(0:Int) < j:=hc;exact mod_int' (by omega) (by rw [Int.fmod_eq_emod_of_nonneg i (by omega)];exact q)
theorem aH:CQ X (binaryOp .Pow) (rI il fun i j=>.int (i ^ j.toNat)):=gR fun _ _ _ _ _ _ _ hc q=>pow_int_small hc.1 hc.2.1 hc.2.2 q
theorem jU {f:Value->Sem Value} {g:Int->Int}
    (rule:∀ (i:Int) (t:Tok) (s:Shared) (Q:Value->Shared->Prop) (E:Value->Shared->Prop),Q (.int (g i) s.toks) { s with toks:=s.toks+1 }->wpAny (model X.prog X.w) X.A (f (.int i t)) Q E s) :
    ie X f (rU fun i=>.int (g i)):=by
  intro pins s σ H x v Q I rx h;obtain ⟨i,rfl,q⟩:=h;obtain ⟨t,rfl⟩:=rx;exact rule i t s _ _ ⟨.int (g i),H,I.tok _,⟨_,rfl⟩,q⟩
theorem Yr:ie X (unaryOp .USub) (rU fun i=>.int (-i)):=jU fun _ _ _ _ _ q=>neg_int q
end
section
variable {X:Cx} {a b c:Expr} {ta tb tc:TE} {pos:Pos}
theorem bK {pins:List (Addr×Obj)} {σ:St} {H:Hp} {s:Shared} {Q:VK} {k k':Bool} (I:Inv X pins σ H s) (q:Q (.bl k) H) (e:k=k'):EP X pins σ Q (.bool k') s:=by
 subst e;exact ⟨.bl k,H,I,rfl,q⟩
theorem eW:CQ X (compareOp .Lt) (PQ fun i j=>.bl (decide (i < j))):=WH fun _ _ _ _ _ _ _ q=>lt_int q
theorem eX:CQ X (compareOp .LtE) (PQ fun i j=>.bl (decide (i<=j))):=WH fun _ _ _ _ _ _ _ q=>le_int q
theorem eY:CQ X (compareOp .Gt) (PQ fun i j=>.bl (decide (j < i))):=WH fun _ _ _ _ _ _ _ q=>gt_int q
theorem eZ:CQ X (compareOp .GtE) (PQ fun i j=>.bl (decide (j<=i))):=WH fun _ _ _ _ _ _ _ q=>ge_int q
theorem Pe:CQ X (compareOp .In) (fun x y H Q=>∃ i j,x=.str i/\y=.str j/\Q (.bl (!(Builtin.Str.occurrences j i 0 j.length 1).isEmpty)) H):=by
 intro pins s σ H x y v u Q I rx ry h;obtain ⟨i,j,rfl,rfl,q⟩:=h;obtain ⟨t,rfl⟩:=rx;obtain ⟨t',rfl⟩:=ry;exact in_str (bK I q rfl)
theorem CQ.or {f:Value->Value->Sem Value} {r r':R2} (h:CQ X f r) (h':CQ X f r'):CQ X f (fun x y H Q=>r x y H Q\/r' x y H Q):=by
 intro pins s σ H x y v u Q I rx ry q;rcases q with q | q
 ·exact h pins s σ H x y v u Q I rx ry q
 ·exact h' pins s σ H x y v u Q I rx ry q
theorem Vx {op:CmpOp} {r:R2} (ho:CQ X (compareOp op) r) (ha:PE X a ta) (hb:PE X b tb) (hm:behindInMarks op b=false):PE X (.Compare a [op] [b] pos) (gQ r ta tb):=by
 intro pins s σ H Q I h;exact wpAny_Compare1 (cF ha hb I h fun v u s2 x y H2 I2 rx ry q=>ho pins s2 σ H2 x y v u Q I2 rx ry q) hm
abbrev Xk (t:TE):TT:=fun σ H Q=>t σ H fun x H'=>∃ k,x=.bl k/\Q k H'
theorem Ve {op:CmpOp} {r:R2} (ho:CQ X (compareOp op) r) (ha:PE X a ta) (hb:PE X b tb) (hm:behindInMarks op b=false):PT X (.Compare a [op] [b] pos) (Xk (gQ r ta tb)):=by
 intro pins s σ H Q I h;refine wpAny_isTrue_Compare1 (Ae (ha pins s σ H _ I h) fun v s1 ⟨x,H1,I1,r1,q1⟩=>Ae (hb pins s1 σ H1 _ I1 q1) fun u s2 ⟨y,H2,I2,r2,q2⟩ =>
  Ae (ho pins s2 σ H2 x y v u _ I2 r1 r2 q2) fun c s3 ⟨z,H3,I3,r3,k,e,q3⟩=>?_) hm
 subst e;cases r3;exact wpAny_truthy_bool ⟨H3,I3,q3⟩
abbrev JB (r r':R2) (ta tb tc:TE):TE:=fun σ H Q=>ta σ H fun x H1=>tb σ H1 fun y H2=>r x y H2 fun z H3=>∃ k,z=.bl k /\
 (if k=true then tc σ H3 fun w' H4=>r' y w' H4 Q else Q (.bl false) H3)
theorem Km {op op':CmpOp} {r r':R2} (ho:CQ X (compareOp op) r) (ho':CQ X (compareOp op') r') (ha:PE X a ta) (hb:PE X b tb) (hc:PE X c tc)
    (hm:lastMarks [op,op'] [b,c]=false:=by with_unfolding_all rfl):PE X (.Compare a [op,op'] [b,c] pos) (JB r r' ta tb tc):=by
  intro pins s σ H Q I h;refine Compare_chain (Ae (ha pins s σ H _ I h) fun v s1 ⟨x,H1,I1,r1,q1⟩=>chain_link (Ae (hb pins s1 σ H1 _ I1 q1) fun u s2 ⟨y,H2,I2,r2,q2⟩ =>
    Ae (ho pins s2 σ H2 x y v u _ I2 r1 r2 q2) fun d s3 ⟨z,H3,I3,r3,k,e,q3⟩=>?_)) hm
  subst e;cases r3;refine wpAny_truthy_bool ?_;cases k with
  | false=>exact ite_ff ⟨.bl false,H3,I3,rfl,q3⟩
  | true=>exact ite_tt (chain_last (Ae (hc pins s3 σ H3 _ I3 q3) fun w' s4 ⟨z',H4,I4,r4,q4⟩=>ho' pins s4 σ H4 y z' u w' Q I4 r2 r4 q4))
theorem Kc {op op':CmpOp} {r r':R2} (ho:CQ X (compareOp op) r) (ho':CQ X (compareOp op') r') (ha:PE X a ta) (hb:PE X b tb) (hc:PE X c tc)
    (hm:lastMarks [op,op'] [b,c]=false:=by with_unfolding_all rfl):PT X (.Compare a [op,op'] [b,c] pos) (Xk (JB r r' ta tb tc)):=by
  intro pins s σ H Q I h;refine isTrue_chain (Ae (ha pins s σ H _ I h) fun v s1 ⟨x,H1,I1,r1,q1⟩=>test_link (Ae (hb pins s1 σ H1 _ I1 q1) fun u s2 ⟨y,H2,I2,r2,q2⟩ =>
    Ae (ho pins s2 σ H2 x y v u _ I2 r1 r2 q2) fun d s3 ⟨z,H3,I3,r3,k,e,q3⟩=>?_)) hm
  subst e;cases r3;refine wpAny_truthy_bool ?_;cases k with
  | false =>
    obtain ⟨k',e',q'⟩:=q3;cases e';exact ite_ff ⟨H3,I3,q'⟩
  | true =>
    refine ite_tt (test_last (Ae (hc pins s3 σ H3 _ I3 q3) fun w' s4 ⟨z',H4,I4,r4,q4⟩=>Ae (ho' pins s4 σ H4 y z' u w' _ I4 r2 r4 q4) fun d' s5 ⟨z2,H5,I5,r5,k2,e2,q5⟩=>?_));subst e2;cases r5;exact wpAny_truthy_bool ⟨H5,I5,q5⟩
def Um (K:W.Frag) (x:V) (H:Hp) (k:Bool):Prop:=
 match x with
 | .non=>k=false
 | .bl b=>k=b
 | .int i=>k=(i != 0)
 | .str y=>y.length<=sizeLine/\k=((y.length:Int) != 0)
 | .byt y=>y.size<=sizeLine/\k=((y.size:Int) != 0)
 | .ref p=>(∃ xs,CB K H p xs/\k=!xs.isEmpty)\/(∃ xs,Cr K H p xs/\k=!xs.isEmpty)\/∃ kvs,H p=some (.dK kvs)/\k=!kvs.isEmpty
 | _=>False
theorem Mg {κ:Type} {kvs:List (κ×V)} {vs:List (κ×Value)} (r:KV kvs vs):(!vs.isEmpty)=!kvs.isEmpty:=by
 cases r<;>rfl
theorem HF {xs:List V} {its:List Value} (r:AD xs its):(!its.toArray.isEmpty)=!xs.isEmpty:=by
 cases r<;>simp
theorem FX:(sizeLine:Nat) < 2 ^ 63:=by rw [sizeLine_eq];decide
theorem Yv:ig X (fun x H Q=>∃ k,Um X.K x H k/\Q k H):=by
 intro pins s σ H x v Q I rx h;obtain ⟨k,e,q⟩:=h;have hl:=FX;have hs:sizeLine=16777216:=sizeLine_eq;cases x with
 | non =>
  cases rx;have e':k=false:=e;subst e';exact truthy_none ⟨H,I,q⟩
 | bl b =>
  cases rx;have e':k=b:=e;subst e';exact wpAny_truthy_bool ⟨H,I,q⟩
 | int i =>
  obtain ⟨t,rfl⟩:=rx;have e':k=(i != 0):=e;subst e';exact PySem.P.truthy_int ⟨H,I,q⟩
 | str y =>
  obtain ⟨t,rfl⟩:=rx;obtain ⟨hy,e'⟩:y.length<=sizeLine/\k=((y.length:Int) != 0):=e;subst e';exact PySem.P.truthy_str (by omega) ⟨H,I.tok _,q⟩
 | byt y =>
  obtain ⟨t,rfl⟩:=rx;obtain ⟨hy,e'⟩:y.size<=sizeLine/\k=((y.size:Int) != 0):=e;subst e';exact W.truthy_bytes (by omega) ⟨H,I.tok _,q⟩
 | ref p =>
  cases rx;have e':(∃ xs,CB X.K H p xs/\k=!xs.isEmpty)\/(∃ xs,Cr X.K H p xs/\k=!xs.isEmpty)\/∃ kvs,H p=some (.dK kvs)/\k=!kvs.isEmpty:=e;rcases e' with ⟨xs,hx,e'⟩ | ⟨xs,hx,e'⟩ | ⟨kvs,hx,e'⟩
  ·subst e';obtain ⟨its,r,pl,hz⟩:=I.list hx;have hlen:=r.length;exact wpAny_truthy_list pl.isList (by simp only [jq];omega) ⟨H,I.tok _,by rw [HF r];exact q⟩
  ·subst e';obtain ⟨its,r,pl,hz⟩:=I.tuple hx;have hlen:=r.length;exact truthy_tuple pl (by simp only [jq];omega) ⟨H,I.tok _,by rw [HF r];exact q⟩
  ·subst e';obtain ⟨hz,hS,vs,r,m⟩:kvs.length<=sizeLine/\(p == sysModules)=false/\∃ vs,KV kvs vs/\s.heap.DictOf (Ay X.prog X.w) p vs:=I.hok p _ hx;have hlen:kvs.length=vs.length:=Paired.length r;exact wpAny_truthy_dict hS m (by omega) ⟨H,I.tok _,by rw [Mg r];exact q⟩
 | _=>exact (show False from e).elim
theorem SI (ha:PE X a ta) (he:∀ whole,isTrue a X.env whole=(do let v <- whole;standAt a.pos;holding [v] (truthy v))) :
    PT X a (fun σ H Q=>ta σ H fun x H'=>∃ k,Um X.K x H' k/\Q k H'):=by
  intro pins s σ H Q I h;exact isTrue_plain (Ae (ha pins s σ H _ I h) fun v s1 ⟨x,H1,I1,r1,q1⟩=>Yv pins s1 σ H1 x v Q I1 r1 q1) (he _)
theorem MV:CQ X (binaryOp .Add) (fun x y H Q=>∃ i j,x=.str i/\y=.str j/\i.length+j.length<=sizeLine/\Q (.str (i++j)) H):=by
 intro pins s σ H x y v u Q I rx ry h;obtain ⟨i,j,rfl,rfl,hz,q⟩:=h;obtain ⟨t,rfl⟩:=rx;obtain ⟨t',rfl⟩:=ry;exact add_str (fun t' tk=>⟨.str (i++j),H,I.tok _,⟨_,rfl⟩,q⟩) hz
theorem vals1 {x:V} {us:List Value} (r:AD [x] us):∃ u,us=[u]/\RelV x u:=by
 cases r with
 | cons r1 r2=>cases r2;exact ⟨_,rfl,r1⟩
theorem Xh {x y:V} {us:List Value} (r:AD [x,y] us):∃ u w',us=[u,w']/\RelV x u/\RelV y w':=by
 cases r with
 | cons r1 r2 =>
  cases r2 with
  | cons r3 r4=>cases r4;exact ⟨_,_,rfl,r1,r3⟩
theorem Qa (hc:X.calm=true):BC X (.builtin "max") (fun xs H Q=>∃ i j,xs=[.int i,.int j]/\Q (.int (if j > i then j else i)) H):=by
 intro pins s σ H xs us Q I r h;obtain ⟨i,j,rfl,q⟩:=h;obtain ⟨u,w',rfl,⟨t,rfl⟩,⟨t',rfl⟩⟩:=Xh r;refine max_two_ints (I.ok.hd hc) fun h' tk k=>⟨_,H,I.kept k,?_,q⟩
 by_cases hj:j > i
 ·rw [if_pos hj,if_pos hj];exact ⟨_,rfl⟩
 ·rw [if_neg hj,if_neg hj];exact ⟨_,rfl⟩
theorem QZ (hc:X.calm=true):BC X (.builtin "min") (fun xs H Q=>∃ i j,xs=[.int i,.int j]/\Q (.int (if j < i then j else i)) H):=by
 intro pins s σ H xs us Q I r h;obtain ⟨i,j,rfl,q⟩:=h;obtain ⟨u,w',rfl,⟨t,rfl⟩,⟨t',rfl⟩⟩:=Xh r;refine min_two_ints (I.ok.hd hc) fun h' tk k=>⟨_,H,I.kept k,?_,q⟩
 by_cases hj:j < i
 ·rw [if_pos hj,if_pos hj];exact ⟨_,rfl⟩
 ·rw [if_neg hj,if_neg hj];exact ⟨_,rfl⟩
theorem Qe:BC X (.type "int") (fun xs H Q=>(∃ i,xs=[.int i]/\Q (.int i) H)\/∃ k,xs=[.bl k]/\Q (.int (if k then 1 else 0)) H):=by
 intro pins s σ H xs us Q I r h;rcases h with ⟨i,rfl,q⟩ | ⟨k,rfl,q⟩
 ·obtain ⟨u,rfl,t,rfl⟩:=vals1 r;exact call_int_int ⟨.int i,H,I,⟨_,rfl⟩,q⟩
 ·obtain ⟨u,rfl,r1⟩:=vals1 r;cases r1;exact call_int_bool ⟨.int (if k then 1 else 0),H,I.tok _,⟨_,rfl⟩,q⟩
def gL (K:W.Frag) (x:V) (H:Hp) (n:Nat):Prop:=
 match x with
 | .str y=>y.length<=sizeLine/\n=y.length
 | .byt y=>y.size<=sizeLine/\n=y.size
 | .ref p=>(∃ xs,CB K H p xs/\n=xs.length)\/∃ xs,Cr K H p xs/\n=xs.length
 | _=>False
theorem UB:BC X (.builtin "len") (fun xs H Q=>∃ x n,xs=[x]/\gL X.K x H n/\Q (.int n) H):=by
 intro pins s σ H xs us Q I r h;obtain ⟨x,n,rfl,e,q⟩:=h;obtain ⟨u,rfl,rx⟩:=vals1 r;have hl:=FX;have hs:sizeLine=16777216:=sizeLine_eq;cases x with
 | str y =>
  obtain ⟨t,rfl⟩:=rx;obtain ⟨hy,e'⟩:y.length<=sizeLine/\n=y.length:=e;subst e';exact len_str (by omega) ⟨.int _,H,I.tok _,⟨_,rfl⟩,q⟩
 | byt y =>
  obtain ⟨t,rfl⟩:=rx;obtain ⟨hy,e'⟩:y.size<=sizeLine/\n=y.size:=e;subst e';exact W.len_bytes (by omega) ⟨.int _,H,I.tok _,⟨_,rfl⟩,q⟩
 | ref p =>
  cases rx;have e':(∃ xs,CB X.K H p xs/\n=xs.length)\/∃ xs,Cr X.K H p xs/\n=xs.length:=e;rcases e' with ⟨xs,hx,e'⟩ | ⟨xs,hx,e'⟩
  ·subst e';obtain ⟨its,r',pl,hz⟩:=I.list hx;have hlen:=r'.length;exact Calls.call_len_list pl.isList (by simp only [jq];omega) ⟨.int xs.length,H,I.tok _,⟨_,by simp only [jq];rw [hlen]⟩,q⟩
  ·subst e';obtain ⟨its,r',pl,hz⟩:=I.tuple hx;have hlen:=r'.length;exact len_tuple pl (by simp only [jq];omega) ⟨.int xs.length,H,I.tok _,⟨_,by simp only [jq];rw [hlen]⟩,q⟩
 | _=>exact (show False from e).elim
end
section
end
theorem Hs.some_of {v:V} {o:Option Value} (r:Hs (some v) o):∃ u,o=some u/\RelV v u:=by
 cases o with
 | none=>exact (show False from r).elim
 | some u=>exact ⟨u,rfl,r⟩
section
end
section
end
section
end
section
end
structure Room (k:Nat) (A:Around):Prop where
 hd:A.handled=none
 dp:A.depth+3 * k+5 < recursionLimit
 un:A.units+16 * k+200 < cLine
 gd:A.guards=some []
theorem Room.mono {j k:Nat} {A:Around} (r:Room k A) (h:j<=k):Room j A:=⟨r.hd,by have:=r.dp;omega,by have:=r.un;omega,r.gd⟩
theorem Room.deeper {k:Nat} {A:Around} (r:Room (k+1) A) (env:Env):Room k (A.deeper env):=
 ⟨r.hd,by have:=r.dp;show A.depth+1+3 * k+5 < _;omega,by have:=r.un;show A.units+3+16 * k+200 < _;omega,r.gd⟩
theorem Room.depth {k:Nat} {A:Around} (r:Room k A):A.depth < recursionLimit:=by have:=r.dp;omega
abbrev VF:TA:=fun _ H Q=>Q [] H
abbrev Xn (ta:TE) (tr:TA):TA:=fun σ H Q=>ta σ H fun x H1=>tr σ H1 fun xs H2=>Q (x::xs) H2
section
variable {X:Cx} {e:Expr} {es:List Expr} {te:TE} {t:TA} {pos:Pos}
theorem MT:PA X [] VF:=fun _ _ _ _ H Q I h=>Calls.spliced_nil ⟨[],H,I,.nil,h⟩
theorem DB (ha:PE X e te) (hr:PA X es t) (hs:starEach (e::es) X.env=(false,eval e X.env)::starEach es X.env:=by rfl):PA X (e::es) (Xn te t):=by
 intro pos pins s σ H Q I h;rw [hs];show wpAny _ _ (spliced ((false,eval e X.env)::backTo pos (starEach es X.env))) _ _ s;refine Calls.spliced_cons (Ae (ha pins s σ H _ I h) fun u s1 ⟨x,H1,I1,r1,q1⟩=>?_);exact Ae (hr pos pins s1 σ H1 _ I1 q1) fun us s2 ⟨xs,H2,I2,r2,q2⟩=>⟨x::xs,H2,I2,.cons r1 r2,q2⟩
abbrev gi (t:TA):TE:=fun σ H Q=>t σ H fun xs H1=>xs.length<=sizeLine/\∀ p,H1 p=none->Q (.ref p) (upd H1 p (.tup xs))
abbrev gn (t:TA):TE:=fun σ H Q=>t σ H fun xs H1=>xs.length<=sizeLine/\∀ p,H1 p=none->Q (.ref p) (upd H1 p (.lst xs))
theorem Zv {x1} (h:PA X es t):PE X (.Tuple es x1 pos) (gi t):=by
 intro pins s σ H Q I hq;refine wpAny_Tuple_spliced (Ae (h pos pins s σ H _ I hq) fun us s1 ⟨xs,H1,I1,r,z,q⟩=>⟨by rw [<- r.length];exact z,?_⟩);have hf:H1 s1.heap.objs.size=none:=I1.hok.fresh (ju _);refine ⟨.ref s1.heap.objs.size,upd H1 s1.heap.objs.size (.tup xs),I1.laid (t':=s1.toks) (fun b u e=>jm _ e) (ju _) ?_,rfl,q _ hf⟩;exact ⟨z,us,r,⟨_,kD _ rfl,rfl,rfl,_,rfl⟩⟩
theorem aA (h:PA X es t):PE X (.List es pos) (gn t):=by
 intro pins s σ H Q I hq;refine wpAny_List_spliced (Ae (h pos pins s σ H _ I hq) fun us s1 ⟨xs,H1,I1,r,z,q⟩=>⟨by rw [<- r.length];exact z,?_⟩);have hf:H1 s1.heap.objs.size=none:=I1.hok.fresh (ju _);refine ⟨.ref s1.heap.objs.size,upd H1 s1.heap.objs.size (.lst xs),I1.laid (t':=s1.toks) (fun b u e=>jm _ e) (ju _) ?_,rfl,q _ hf⟩;exact ⟨z,us,0,r,kD _ rfl⟩
end
abbrev Sp:=List V->Hp->VK->XK->Prop
abbrev Us:=List Env->Hp->Shared->XK->Value->Shared->Prop
structure Env0 (P:Program) (w:World) (K:W.Frag) (mg:Str->Option Value) (base:Heap) (A:Around) (outer:List Env) (s:Shared) (H:Hp):Prop where
 frames:A.frames=some outer
 mod:Mod K mg base
 bs:∀ b o,base.get? b=some o->s.heap.get? b=some o/\H b=none
 bsz:base.objs.size<=s.heap.objs.size
 funs:s.heap.FunFrames base outer
 frf:∀ b∈ON outer,H b=none
 hok:ER P w H s.heap
 bare:AllBare s.gens
def CE (outer:List Env) (P:Program) (w:World) (H:Hp) (s:Shared) (Q:VK) (u:Value) (s':Shared):Prop:=
 ∃ v H',s'.os=s.os/\AllBare s'.gens/\Un (ON outer) [] H H' s.heap s'.heap/\ER P w H' s'.heap/\RelV v u/\Q v H'
def CR (CX:Us) (outer:List Env) (P:Program) (w:World) (H:Hp) (s:Shared) (Q:VK) (E:XK) (r:Result) (s':Shared):Prop:=
 match r with
 | .ok (.ret u)=>CE outer P w H s Q u s'
 | .ok _=>False
 | .error e=>CX outer H s E e s'
structure FnOk (P:Program) (w:World) (K:W.Frag) (mg:Str->Option Value) (base:Heap) (CX:Us) (k:Nat) (f:Addr) (fd:FuncData) (ps:List Str) (sp:Sp):Prop where
 len:∀ vs H Q E,sp vs H Q E->vs.length=ps.length
 run:∀ (A:Around) (outer:List Env) (s:Shared) (H:Hp) (args:Args) (us:List Value) (vs:List V) (Q:VK) (E:XK),Room k A->Env0 P w K mg base A outer s H->BindsTo s fd args (ps.zip us)->AD vs us->sp vs H Q E ->
  codeAny (model P w) A (.call (.ref f) args) (CR CX outer P w H s Q E) s
theorem FnOk.imp {P:Program} {w:World} {K:W.Frag} {mg:Str->Option Value} {base:Heap} {CX:Us} {k:Nat} {f:Addr} {fd:FuncData} {ps:List Str} {sp sp':Sp} (F:FnOk P w K mg base CX k f fd ps sp)
    (h:∀ vs H Q E,sp' vs H Q E->sp vs H Q E):FnOk P w K mg base CX k f fd ps sp':=
  ⟨fun vs H Q E q=>F.len vs H Q E (h _ _ _ _ q),fun A outer s H args us vs Q E hr he hb hv hs=>F.run A outer s H args us vs Q E hr he hb hv (h _ _ _ _ hs)⟩
section
variable {X:Cx} {pins:List (Addr×Obj)} {σ:St} {H:Hp} {s s':Shared}
theorem Inv.env0 (I:Inv X pins σ H s):Env0 X.prog X.w X.K X.mg X.base X.A X.stack s H:=
 ⟨I.ok.frames,I.ok.mod,I.bs,kM I.ok.bsz I.sz,I.stack,I.stkFree,I.hok,I.bare⟩
theorem Inv.after {Q:VK} {u:Value} (I:Inv X pins σ H s) (h:CE X.stack X.prog X.w H s Q u s'):EP X pins σ Q u s':=by
 obtain ⟨v,H',os,bare,un,hok,r,q⟩:=h;obtain ⟨hh,g,d,t,os'⟩:=s';obtain rfl:os'=s.os:=os;exact ⟨v,H',I.call (h':=hh) (g':=g) (d':=d) (t':=t) (ch:=[]) un hok bare (fun b z=>absurd z (by simp)),r,q⟩
end
abbrev Xo (sp:Sp) (dvs:List V) (E:XK) (t:TA):TE:=fun σ H Q=>t σ H fun vs H1=>sp (vs++dvs) H1 Q E
def Binds (K:W.Frag) (fd:FuncData) (ps:List Str) (ds:List Value):Prop:=
 ∀ (s:Shared) (us:List Value),K.In s.heap->(us++ds).length=ps.length->BindsTo s fd ⟨us,[]⟩ (ps.zip (us++ds))
theorem Binds.all {K:W.Frag} {fd:FuncData} {ps:List Str} (h:∀ us:List Value,us.length=ps.length->bindArgs fd ⟨us,[]⟩=pure (ps.zip us)):Binds K fd ps []:=fun s us _ hl=>by
 rw [lB] at hl ⊢;exact .of_eq (h us hl)
def Jv (CX:Us) (X:Cx) (E:XK):Prop:=∀ (pins:List (Addr×Obj)) (σ:St) (H:Hp) (s:Shared) (e:Value) (s':Shared),Inv X pins σ H s->CX X.stack H s E e s'->X.xe e s'
section
variable {X:Cx} {CX:Us} {k:Nat} {f C:Addr} {fd:FuncData} {ps:List Str} {sp:Sp} {dvs:List V} {ds:List Value} {E:XK} {x m:Str} {p pos apos:Pos} {e o:Expr} {es:List Expr} {ta:TE} {t:TA}
theorem Rw {pins:List (Addr×Obj)} {σ:St} {H:Hp} {s:Shared} {Q:VK} {us:List Value} {vs:List V} (F:FnOk X.prog X.w X.K X.mg X.base CX k f fd ps sp) (hr:Room k X.A) (hb:Binds X.K fd ps ds) (hd:AD dvs ds) (hx:Jv CX X E)
    (I:Inv X pins σ H s) (r:AD vs us) (h:sp (vs++dvs) H Q E):wpAny (model X.prog X.w) X.A (call (.ref f) us) (EP X pins σ Q) X.xe s:=by
  have r2:AD (vs++dvs) (us++ds):=r.append hd;have hl:(us++ds).length=ps.length:=by rw [<- r2.length];exact F.len _ _ _ _ h
  refine wpAny_call (codeAny_mono (F.run X.A X.stack s H ⟨us,[]⟩ (us++ds) (vs++dvs) Q E hr I.env0 (hb s us I.kIn hl) r2 h) fun r s' hq=>?_);cases r with
  | error e=>exact hx pins σ H s e s' I hq
  | ok fl =>
    cases fl with
    | ret u=>exact I.after hq
    | next=>exact False.elim hq
    | brk=>exact False.elim hq
    | cont=>exact False.elim hq
theorem Vy (F:FnOk X.prog X.w X.K X.mg X.base CX k f fd ps sp) (hr:Room k X.A) (hg:Gl X x) (hm:X.mg x=some (.ref f)) (hk:W.keepIn X.K (.ref f)=true) (hb:Binds X.K fd ps ds) (hd:AD dvs ds) (hx:Jv CX X E)
    (ha:PA X (e::es) t) (hdb:(x == ("__debug__" : Str))=false:=by decide) (he:starEach (e::es) X.env=(false,eval e X.env)::starEach es X.env:=by rfl) (hpl:(backTo pos (starEach es X.env)).any (·.1)=false:=by rfl) :
    PE X (.Call (.Name x p) (e::es) [] pos) (Xo sp dvs E t):=by
  intro pins s σ H Q I h;refine wpAny_Call_Name_kw (JR I hg hm ?_ hdb);refine W.callWith_K (h₀:=X.base) I.ok.mod.kin hk (Ae (ha pos pins s σ H _ I h) fun us s1 ⟨vs,H1,I1,r,q⟩=>⟨I1.kIn,?_⟩) he hpl;exact Rw F hr hb hd hx I1 r q
theorem Se (F:FnOk X.prog X.w X.K X.mg X.base CX k f fd ps sp) (hr:Room k X.A) (hg:Gl X x) (hm:X.mg x=some (.ref f)) (hk:W.keepIn X.K (.ref f)=true) (hb:Binds X.K fd ps ds) (hd:AD dvs ds) (hx:Jv CX X E)
    (hdb:(x == ("__debug__" : Str))=false:=by decide):PE X (.Call (.Name x p) [] [] pos) (Xo sp dvs E VF):=by
  intro pins s σ H Q I h;refine wpAny_Call_Name_kw (JR I hg hm ?_ hdb);exact W.callWith_K0 I.kIn hk (Rw (us:=[]) F hr hb hd hx I .nil h)
end
section
end
structure FnScope (N P:List Str) (sc:Scope):Prop where
 kind:sc.kind=.function
 co:sc.isCoroutine=false
 gen:sc.isGenerator=false
 nd:N.Nodup
 pre:N.take P.length=P
 par:∀ x∈P,sc.names.lookup x=some .local\/sc.names.lookup x=some .cell
 nofree:∀ y∈sc.names,y.2≠.free
theorem Im {kindOf:Str->Option NameKind} {x:Str}:∀ {binds:List (Str×Value)} {m:Str->Option Value},(∀ v,(x,v)∉binds)->bindL kindOf binds m x=m x
 | [],_,_=>rfl
 | (n,v)::r,m,h=>by
  unfold bindL;rw [Im fun w hw=>h w (kB _ hw)];split
  ·have:x≠n:=by rintro rfl;exact h v kA
   simp [this]
  ·rfl
theorem Iq {kindOf:Str->Option NameKind} {x:Str}:∀ {binds:List (Str×Value)} {m:Str->Option Value},(∀ v,(x,v)∉binds)->bindC kindOf binds m x=m x
 | [],_,_=>rfl
 | (n,v)::r,m,h=>by
  unfold bindC;rw [Iq fun w hw=>h w (kB _ hw)];split
  ·rfl
  ·have:x≠n:=by rintro rfl;exact h v kA
   simp [this]
theorem Ip {kindOf:Str->Option NameKind} {x:Str} {v:Value}:∀ {P:List Str} {vs:List Value} {i:Nat} {m:Str->Option Value},P.Nodup->P[i]?=some x->vs[i]?=some v->kindOf x=some .local ->
    bindL kindOf (P.zip vs) m x=some v
  | [],_,_,_,_,h,_,_=>by simp at h
  | _::_,[],_,_,_,_,h,_=>by simp at h
  | p::P,w::vs,0,m,nd,h1,h2,hk=>by
    simp at h1 h2;subst h1;subst h2;show bindL kindOf ((p,w)::P.zip vs) m p=_;unfold bindL;rw [Im fun v hv=>(mC.mp nd).1 (mq hv).1,if_pos hk];simp
  | p::P,w::vs,i+1,m,nd,h1,h2,hk=>by
    show bindL kindOf ((p,w)::P.zip vs) m x=_;unfold bindL;exact Ip (i:=i) (mC.mp nd).2 (by simpa using h1) (by simpa using h2) hk
theorem Ir {kindOf:Str->Option NameKind} {x:Str} {v:Value}:∀ {P:List Str} {vs:List Value} {i:Nat} {m:Str->Option Value},P.Nodup->P[i]?=some x->vs[i]?=some v->kindOf x≠some .local ->
    bindC kindOf (P.zip vs) m x=some v
  | [],_,_,_,_,h,_,_=>by simp at h
  | _::_,[],_,_,_,_,h,_=>by simp at h
  | p::P,w::vs,0,m,nd,h1,h2,hk=>by
    simp at h1 h2;subst h1;subst h2;show bindC kindOf ((p,w)::P.zip vs) m p=_;unfold bindC;rw [Iq fun v hv=>(mC.mp nd).1 (mq hv).1,if_neg hk];simp
  | p::P,w::vs,i+1,m,nd,h1,h2,hk=>by
    show bindC kindOf ((p,w)::P.zip vs) m x=_;unfold bindC;exact Ir (i:=i) (mC.mp nd).2 (by simpa using h1) (by simpa using h2) hk
def start (N:List Str) (vs:List V):St:=vs.map some++List.replicate (N.length - vs.length) none
def LR (CX:Us) (P:Program) (w:World) (K:W.Frag) (mg:Str->Option Value) (base:Heap) (N:List Str) (qual:Str) (scope:Scope) (f:Addr) (cd:Value) (A:Around) (outer:List Env) (s:Shared) (H:Hp) (E:XK):Cx where
 prog:=P
 w:=w
 K:=K
 mg:=mg
 base:=base
 A:=A.deeper (envOfC qual scope s.heap.objs.size f cd)
 N:=N
 s₀:=s
 H₀:=H
 env:=envOfC qual scope s.heap.objs.size f cd
 outer:=outer
 stack:=envOfC qual scope s.heap.objs.size f cd::outer
 ex:=[]
 calm:=true
 fn:=fun _=>true
 pn:=[]
 xe:=fun e s'=>wpAny (model P w) (A.deeper (envOfC qual scope s.heap.objs.size f cd)) (leaving (envOfC qual scope s.heap.objs.size f cd) e) (fun _ s''=>CX outer H s E e s'') (fun e' s''=>CX outer H s E e' s'') s'
theorem LV {sc:Scope} {n:Nat} {x:Str} (h:sc.names.lookup x=some .cell):∃ c,(cellsFrom n sc.names []).lookup x=some c:=by
 have q:=W.cellsFrom_some sc.names n [] (.inl h);exact lX.mp q
theorem QK {CX:Us} {P:Program} {w:World} {K:W.Frag} {mg:Str->Option Value} {base:Heap} {N ps:List Str} {qual:Str} {scope:Scope} {f:Addr} {cd:Value} {A:Around} {outer:List Env} {s s1:Shared} {H:Hp} {E:XK} {us:List Value} {vs:List V}
    (S:FnScope N ps scope) (hd:A.handled=none) (e0:Env0 P w K mg base A outer s H) (hl:vs.length=ps.length) (r:AD vs us)
    (x:InCallC s s.heap.objs.size (bindL (envOfC qual scope s.heap.objs.size f cd).kindOf (ps.zip us) fun _=>none) (cellsFrom (s.heap.objs.size+1) scope.names []) (bindC (envOfC qual scope s.heap.objs.size f cd).kindOf (ps.zip us) fun _=>none) s1) :
    Inv (LR CX P w K mg base N qual scope f cd A outer s H E) [] (start N vs) H s1:=by
  have hpl:ps.length<=N.length:=by have:=congrArg List.length S.pre;rw [lL] at this;omega
  obtain ⟨h1,tk,rfl,hk⟩:=x.done;have noA:∀ b:Addr,b∉(LR CX P w K mg base N qual scope f cd A outer s H E).ex:=fun b z=>absurd (show b∈([]:List Addr) from z) (by simp)
  refine ⟨⟨e0.mod,S.kind,rfl,rfl,ju _,fun y z c h1 h2=>?_,fun y hy=>?_,fun y c _ h=>?_,fun _=>hd,Around.frames_deeper e0.frames,.inr ⟨rfl,rfl⟩,fun b z=>absurd z (noA b),e0.bs,e0.bsz,fun b _ _=>noA b,fun b z=>absurd z (noA b),e0.funs,e0.frf⟩,
    rfl,e0.bare,Un.kept hk,⟨_,x.toInCall.ns,fun i y v h1 h2 h3=>?_⟩,fun y c h=>⟨_,x.cell y c h⟩,e0.hok.fresh (ju _),fun y c h=>?_,fun p hp=>absurd (show p∈([]:List (Addr×Obj)) from hp) (by simp),e0.hok.kept hk,?_⟩
  · exact name_of_addr x.apart (kc h1) (kc h2)
  · have hy:scope.names.lookup y=some .cell\/scope.names.lookup y=some .free:=hy;rcases hy with hy | hy
    · exact LV hy
    · exact absurd rfl (S.nofree _ (kc hy))
  · exact Nat.le_of_lt (x.above y c (kc h))
  · have hi:i < vs.length:=by
      unfold start at h2
      by_cases hi:i < vs.length
      · exact hi
      · rw [kS (by simpa using hi)] at h2;rw [mz] at h2;split at h2<;>cases h2
    have ha:vs[i]?=some v:=by
      unfold start at h2;rw [kK (by simpa using hi),kN] at h2;cases e:vs[i]? with
      | none=>rw [e] at h2;cases h2
      | some a=>rw [e] at h2;cases h2;rfl
    obtain ⟨u,hu,rv⟩:=r.get ha;have hp:ps[i]?=some y:=by
      rw [<- S.pre,my (by omega)];exact h1
    have ndP:ps.Nodup:=by rw [<- S.pre];exact S.nd.sublist (List.take_sublist _ _)
    refine ⟨u,rv,?_⟩;rcases S.par y (kh hp) with k | k
    · exact .inl ⟨k,Ip ndP hp hu k⟩
    · obtain ⟨c,e⟩:=LV (n:=s.heap.objs.size+1) k;refine .inr ⟨.inl k,c,e,?_⟩;have q:=x.cell y c e;rw [Ir ndP hp hu (by show scope.names.lookup y≠_;rw [k];decide)] at q;exact q
  · exact e0.hok.fresh (Nat.le_of_lt (x.above y c (kc h)))
  · unfold start;show _=N.length;rw [kT,jv,List.length_replicate];omega
theorem fN {CX:Us} {P:Program} {w:World} {K:W.Frag} {mg:Str->Option Value} {base:Heap} {k:Nat} {f:Addr} {name qual:Str} {params:Arguments} {body:List Stmt} {scope:Scope} {dV kV doc pm cdv ct oc:Value} {an od:Option Addr}
    {osl:Array (Option Value)} {N ps:List Str} {sp:Sp} (lk:K.lookup f=some ⟨oc,od,.func (W.fnOf name qual params body scope dV kV doc pm an cdv ct),osl⟩) (hcd:W.codeIn K cdv qual=true) (S:FnScope N ps scope)
    (len:∀ vs H Q E,sp vs H Q E->vs.length=ps.length)
    (hbody:∀ (A:Around) (outer:List Env) (s:Shared) (H:Hp) (vs:List V) (Q:VK) (E:XK),Room k (A.deeper (envOfC qual scope s.heap.objs.size f cdv))->sp vs H Q E ->
      ∃ t,DM (LR CX P w K mg base N qual scope f cdv A outer s H E) body t/\t { nx:=fun _ H'=>Q .non H',rt:=Q } (start N vs) H) :
    FnOk P w K mg base CX (k+1) f (W.fnOf name qual params body scope dV kV doc pm an cdv ct) ps sp:=by
  refine ⟨len,fun A outer s H args us vs Q E hr e0 hb r hsp=>?_⟩;have hl:=len _ _ _ _ hsp;have KX:K.In s.heap:=e0.mod.kin.keeps fun b o e=>(e0.bs b o e).1
  have lim:s.heap.NoLimit:=e0.mod.nolimit.keeps fun b o e=>(e0.bs b o e).1
  have hkind:∀ y∈ps.zip us,scope.names.lookup y.1=some .local\/(scope.names.lookup y.1=some .cell/\((cellsFrom (s.heap.objs.size+1) scope.names []).lookup y.1).isSome=true):=fun ⟨n,v⟩ hy=>by
    rcases S.par n (mq hy).1 with q | q
    · exact .inl q
    · exact .inr ⟨q,W.cellsFrom_some _ _ _ (.inl q)⟩
  refine codeAny_call_function hr.depth (KX _ _ lk) rfl S.co S.gen rfl (W.codeRec_of KX hcd) (hb _ _ _ _ ?_);refine wpAny_newFunctionEnv_cells S.kind hkind fun env he s1 x=>?_
  subst he;refine ⟨lim.keeps x.toInCall.keep,codeAny_func ?_⟩;obtain ⟨t,ht,hq⟩:=hbody A outer s H vs Q E (hr.deeper _) hsp;have I:Inv (LR CX P w K mg base N qual scope f cdv A outer s H E) [] (start N vs) H s1:=QK S hr.hd e0 hl r x;refine wpAny_mono (ht [] s1 (start N vs) H _ I hq) (fun fl s' hs=>?_) fun e s' hs=>hs
  have fin:∀ {σ':St} {H':Hp} {v:V} {u:Value},Inv (LR CX P w K mg base N qual scope f cdv A outer s H E) [] σ' H' s'->RelV v u->Q v H'->CE outer P w H s Q u s':=
    fun {σ' H' v u} J rv q=>⟨v,H',J.os,J.bare,J.base,J.hok,rv,q⟩
  cases fl with
  | ret u =>
    obtain ⟨v,σ',H',J,rv,q⟩:=hs;exact fin J rv q
  | next =>
    obtain ⟨σ',H',J,q⟩:=hs;exact fin (v:=V.non) (u:=Value.none) J rfl q
  | brk =>
    obtain ⟨_,_,_,q⟩:=hs;exact False.elim q
  | cont =>
    obtain ⟨_,_,_,q⟩:=hs;exact False.elim q
section
variable {X:Cx} {x:Str} {p pos:Pos} {e:Expr} {es:List Expr} {t:TA} {id T:String} {r:List V->Hp->VK->Prop}
abbrev jD (r:List V->Hp->VK->Prop) (t:TA):TE:=fun σ H Q=>t σ H fun vs H1=>r vs H1 Q
theorem Sd (hc:BC X (.builtin id) r) (hg:Gl X x) (hm:X.mg x=none) (hv:bootBuiltins x=some (.builtin id)) (ha:PA X (e::es) t) (hn:x ≠ "__name__" := by decide) (hdb:(x == ("__debug__" : Str))=false:=by decide)
    (he:starEach (e::es) X.env=(false,eval e X.env)::starEach es X.env:=by rfl) (hpl:(backTo pos (starEach es X.env)).any (·.1)=false:=by rfl):PE X (.Call (.Name x p) (e::es) [] pos) (jD r t):=by
  intro pins s σ H Q I h;refine wpAny_Call_Name_kw (BZ I hg hm hv ?_ hn hdb);exact PyProof.Rows.callWith_builtin1 (Ae (ha pos pins s σ H _ I h) fun us s1 ⟨vs,H1,I1,r1,q1⟩=>hc pins s1 σ H1 vs us Q I1 r1 q1) he hpl
theorem Pd (hc:BC X (.type T) r) (hg:Gl X x) (hm:X.mg x=none) (hv:bootBuiltins x=some (.type T)) (ha:PA X (e::es) t) (hn:x ≠ "__name__" := by decide) (hdb:(x == ("__debug__" : Str))=false:=by decide)
    (he:starEach (e::es) X.env=(false,eval e X.env)::starEach es X.env:=by rfl) (hpl:(backTo pos (starEach es X.env)).any (·.1)=false:=by rfl):PE X (.Call (.Name x p) (e::es) [] pos) (jD r t):=by
  intro pins s σ H Q I h;refine wpAny_Call_Name_kw (BZ I hg hm hv ?_ hn hdb);exact kX (Ae (ha pos pins s σ H _ I h) fun us s1 ⟨vs,H1,I1,r1,q1⟩=>hc pins s1 σ H1 vs us Q I1 r1 q1) he hpl
end
end L2
namespace HT
open PySem PyProof.Rows
noncomputable def lexLt:List Int->List Int->Bool
 | [],[]=>false
 | [],_::_=>true
 | _::_,[]=>false
 | x::xs,y::ys=>if x=y then lexLt xs ys else decide (x < y)
theorem lexLt_cons (x y:Int) (xs ys:List Int):lexLt (x::xs) (y::ys)=if x=y then lexLt xs ys else decide (x < y):=rfl
theorem Hh:lexLt [] []=false:=rfl
theorem HB (y:Int) (ys:List Int):lexLt [] (y::ys)=true:=rfl
theorem HC (x:Int) (xs:List Int):lexLt (x::xs) []=false:=rfl
theorem LL (A:Around) (s:Shared) (a:Int) (t:Tok) (c:Int) (u:Tok):∃ e,SeqAt.EqAt A s (.int a t) (.int c u) e/\(e=true↔a=c):=
 ⟨(a == c),SeqAt.EqAt.int_int a t c u,by simp⟩
theorem SA (A:Around) (s:Shared) (a:Int) (t:Tok) (c:Int) (u:Tok) (prog:Program) (w:World) (E:Value->Shared->Prop) (Q:Value->Shared->Prop) (h:Q (.bool (decide (a < c))) s) :
    wpAny (model prog w) A (richCompare .Lt (.int a t) (.int c u)) Q E s:=
  (PyProof.Rows.lt_int h:wpAny (model prog w) A (compareOp .Lt (.int a t) (.int c u)) Q E s)
section
open PySem.SeqAt
open PySem.AutoSeq1 (wpAny_loadPart')
open PySem.MeetsSeq PySem.MeetsSeq2 PySem.MeetsSeq3
theorem tuple_lt_ints (l b:Addr) (items items2:Array Value) (n n2:Nat) (dd dd2:Option Addr) (sl sl2:Array (Option Value)) (ns ms:List Int) (hi:IntsAre items.toList ns) (hj:IntsAre items2.toList ms) :
    Meets (Builtin.«tuple.__lt__» ⟨[.ref l,.ref b],[]⟩)
      (fun _ R s=>s.heap.get? l=some { cls:=.type "tuple", dict:=dd,data:=.seq items n,slots:=sl }/\s.heap.get? b=some { cls:=.type "tuple", dict:=dd2,data:=.seq items2 n2,slots:=sl2 } /\
        R (.ok (.ret (.bool (lexLt ns ms)))) s):=
  .of_wp fun prog w A R s h=>by
    obtain ⟨hp,g,d,tk,os⟩:=s;obtain ⟨hl,hb,h⟩:=h;have f2:=AutoSeq1.sub_tuple_tuple;have z1:items.size=ns.length:=by rw [<- hi.length];simp
    have z2:items2.size=ms.length:=by rw [<- hj.length];simp
    wp_walk using wpAny_loadPart' hl,wpAny_loadPart' hb,wpAny_forIn_list _ (fun rest b s'=>b.1=none/\s'=⟨hp,g,d,tk,os⟩/\∃ (vs ws:List Value) (ns' ms':List Int),rest=vs.zip ws /\
      IntsAre vs ns'/\IntsAre ws ms'/\ns'.length+items2.size=ms'.length+items.size/\R (.ok (.ret (.bool (lexLt ns' ms')))) ⟨hp,g,d,tk,os⟩) _
    case turn =>
      rintro ⟨y,x⟩ rest b s' ⟨hb',rfl,vs,ws,ns',ms',hz,hvi,hwi,hlen,hR⟩;cases hvi with
      | nil=>rw [List.zip_nil_left] at hz;cases hz
      | cons a t hvi' =>
        cases hwi with
        | nil=>rw [List.zip_nil_right] at hz;cases hz
        | cons c u hwi' =>
          rw [ko] at hz;injection hz with hyx hrest
          injection hyx with hy hx
          subst hy hx;rw [lexLt_cons] at hR;simp only [kG] at hlen;obtain ⟨e,he,hiff⟩:=LL A.in1 ⟨hp,g,d,tk,os⟩ a t c u;refine wpAny_bind (he prog w _ _ ?_);cases e with
          | true =>
            rw [if_pos (hiff.mp rfl)] at hR
            wp_walk
            exact ⟨rfl,rfl,_,_,_,_,hrest,hvi',hwi',by omega,hR⟩
          | false =>
            rw [if_neg (fun q=>absurd (hiff.mpr q) kI)] at hR;have hri:=SA A.in1 ⟨hp,g,d,tk,os⟩ a t c u prog w
            wp_walk using hri
            exact ⟨_,rfl,by simpa using hR⟩
    case fin =>
      rintro ⟨b1,b2⟩ s' ⟨hb',rfl,vs,ws,ns',ms',hz,hvi,hwi,hlen,hR⟩;simp only at hb';subst hb';have hv:lexLt ns' ms'=decide (items.size < items2.size):=by
        cases hvi with
        | nil =>
          cases hwi with
          | nil =>
            simp only [kq] at hlen;rw [Hh];exact (decide_eq_false (by omega)).symm
          | cons c u hw =>
            simp only [kq,kG] at hlen;rw [HB];exact (decide_eq_true (by omega)).symm
        | cons a t hv =>
          cases hwi with
          | nil =>
            simp only [kq,kG] at hlen;rw [HC];exact (decide_eq_false (by omega)).symm
          | cons c u hw =>
            rw [ko] at hz;cases hz
      rw [hv] at hR
      wp_walk
      exact ⟨_,rfl,by simpa [Builtin.Tuple.tupleCompareSizes] using hR⟩
    case h =>
      exact ⟨rfl,rfl,items.toList,items2.toList,ns,ms,rfl,hi,hj,by omega,h⟩
end
section
variable {prog:Program} {w:World} {A:Around} {E:Value->Shared->Prop} {s:Shared}
theorem lt_tupInts {l b:Addr} {items items2:Array Value} {ns ms:List Int} {Q:Value->Shared->Prop} (hl:IsTup s.heap l items) (hb:IsTup s.heap b items2) (hi:IntsAre items.toList ns) (hj:IntsAre items2.toList ms)
    (hu:A.units < cLine) (h:Q (.bool (lexLt ns ms)) s):wpAny (model prog w) A (compareOp .Lt (.ref l) (.ref b)) Q E s:=by
  obtain ⟨⟨cls,dd,data,sl⟩,ho,hc,n,hd⟩:=id hl;obtain ⟨⟨cls2,dd2,data2,sl2⟩,ho2,hc2,n2,hd2⟩:=id hb;simp only at hc hd hc2 hd2;subst hc hd hc2 hd2;exact richCompare_meets_room (op:=.Lt) ⟨_,ho,rfl⟩ ⟨_,ho2,rfl⟩ PySem.F.slot_tuple_lt PySem.F.entry_tuple_lt (PySem.F.args_tuple_lt_2 _ _) (tuple_lt_ints l b items items2 n n2 dd dd2 sl sl2 ns ms hi hj)
    ⟨ho,ho2,show Value.bool (lexLt ns ms)≠Value.notImplemented/\Q (.bool (lexLt ns ms)) s from ⟨(fun x=>nomatch x),h⟩⟩ hu
theorem cat_tup {t b:Addr} {vs ws:List Value} {Q:Value->Shared->Prop} (ht:IsTup s.heap t vs.toArray) (hb:IsTup s.heap b ws.toArray) (hv:vs≠[])
    (h1:ws=[]->Q (.ref t) s) (h2:ws≠[]->Q (.ref s.heap.objs.size) { s with heap:=s.heap.push { cls:=.type "tuple", data:=.seq (vs++ws).toArray } })
    (hsz:vs.length+ws.length<=sizeLine):wpAny (model prog w) A (binaryOp .Add (.ref t) (.ref b)) Q E s:=by
  obtain ⟨⟨cls,dd,data,sl⟩,ho,hc,n,hd⟩:=id ht;obtain ⟨⟨cls2,dd2,data2,sl2⟩,ho2,hc2,n2,hd2⟩:=id hb;simp only at hc hd hc2 hd2;subst hc hd hc2 hd2;have e:vs.toArray++ws.toArray=(vs++ws).toArray:=by simp
  by_cases hw:ws=[]
  · exact concat_meets ⟨_,ho,rfl⟩ ⟨_,ho2,rfl⟩ noFill_tuple_add seq_tuple_add PySem.F.slot_tuple_add PySem.F.entry_tuple_add (PySem.F.args_tuple_add_2 _ _)
      (tuple_addW1 t b vs.toArray ws.toArray n n2 dd dd2 sl sl2 (by simpa using hv) (by simp [hw])) ⟨ho,ho2,h1 hw⟩
  · refine concat_meets ⟨_,ho,rfl⟩ ⟨_,ho2,rfl⟩ noFill_tuple_add seq_tuple_add PySem.F.slot_tuple_add PySem.F.entry_tuple_add (PySem.F.args_tuple_add_2 _ _)
      (tuple_addW2 t b vs.toArray ws.toArray n n2 dd dd2 sl sl2 (by simpa using hv) (by simpa using hw) (by rw [jq,jq];exact hsz)) ⟨ho,ho2,?_⟩
    rw [e];exact h2 hw
noncomputable def sIx (n d:Nat):Option Int->Nat
 | none=>d
 | some v=>if v < 0 then (v+(n:Int)).toNat else min v.toNat n
theorem sIx_le (n d:Nat) (hd:d<=n) (o:Option Int):sIx n d o<=n:=by
 cases o with
 | none=>exact hd
 | some v =>
  show (if v < 0 then (v+(n:Int)).toNat else min v.toNat n)<=n
  by_cases hv:v < 0
  ·rw [if_pos hv];omega
  ·rw [if_neg hv];exact Nat.min_le_right _ _
theorem Oe (v:Int) (n d:Nat):(if v < 0 then max (v+(n:Int)) 0 else min v (n:Int))=((sIx n d (some v):Nat):Int):=by
 show (if v < 0 then max (v+(n:Int)) 0 else min v (n:Int))=(((if v < 0 then (v+(n:Int)).toNat else min v.toNat n):Nat):Int)
 by_cases hv:v < 0
 ·simp only [if_pos hv];omega
 ·simp only [if_neg hv];omega
theorem NS (lo hi:Option Int) (n:Nat):Builtin.Slice.sliceAdjust lo hi 1 (n:Int)=(((sIx n 0 lo:Nat):Int),((sIx n n hi:Nat):Int)):=by
 have h1:¬ ((1:Int) < 0):=by omega
 unfold Builtin.Slice.sliceAdjust;simp only [h1,if_false];refine Prod.ext ?_ ?_
 ·cases lo with
  | none=>rfl
  | some v=>exact Oe v n 0
 ·cases hi with
  | none=>rfl
  | some v=>exact Oe v n n
theorem MN (i j:Nat):Builtin.Slice.slicePlaces (i:Int) (j:Int) 1=j - i:=by
 unfold Builtin.Slice.slicePlaces;have h1:(1:Int) > 0:=by omega
 simp only [h1,if_true,Int.ediv_one];split<;>omega
theorem EL {v:Value} {o:Option Int} {Q:Option Int->Shared->Prop} (p:IsPart v o) (h:Q o s):wpAny (model prog w) A (Builtin.Slice.slicePartIndex v) Q E s:=by
 cases p with
 | none=>exact slicePart_none h
 | int i t=>exact slicePart_int h
theorem sliceApplied_gen {sl:Addr} {vl vu:Value} {lo hi:Option Int} {n:Nat} {Q:Int×Int×Nat->Shared->Prop} (hs:s.heap.IsSliceOf sl vl vu .none) (pl:IsPart vl lo) (pu:IsPart vu hi)
    (h:Q (((sIx n 0 lo:Nat):Int),1,sIx n n hi - sIx n 0 lo) s):wpAny (model prog w) A (Builtin.Slice.sliceApplied (.ref sl) (pure (n:Int))) Q E s:=by
  obtain ⟨os,hos,hcs,hds⟩:=id hs;unfold Builtin.Slice.sliceApplied Builtin.Slice.sliceFields;refine wpAny_bind (wpAny_bind (wpAny_field hos hds (x:=vl) rfl (wpAny_bind (wpAny_field hos hds (x:=vu) rfl (wpAny_bind (wpAny_field hos hds (x:=.none) rfl (wpAny_pure ?_)))))));refine wpAny_bind (slicePart_none ?_);show wpAny _ _ (if ((1:Int) == 0)=true then _ else _) _ _ s;rw [if_neg (by decide)];refine wpAny_bind (EL pl (wpAny_bind (EL pu (wpAny_bind (wpAny_pure ?_)))));show wpAny _ _ (match Builtin.Slice.sliceAdjust lo hi 1 (n:Int) with | (lo,hi)=>pure (lo,(1:Int),Builtin.Slice.slicePlaces lo hi 1)) _ _ s;rw [NS lo hi n];show wpAny _ _ (pure (((sIx n 0 lo:Nat):Int),(1:Int),Builtin.Slice.slicePlaces ((sIx n 0 lo:Nat):Int) ((sIx n n hi:Nat):Int) 1)) _ _ s;rw [MN];exact wpAny_pure h
theorem SW (xs:Array Value) (i k:Nat):((List.range k).filterMap fun (m:Nat)=>xs[((i:Int)+(m:Int) * 1).toNat]?).toArray=((xs.toList.drop i).take k).toArray:=by
 have e:(fun (m:Nat)=>xs[((i:Int)+(m:Int) * 1).toNat]?)=fun m=>xs[i+m]?:=by
  funext m;have:((i:Int)+(m:Int) * 1).toNat=i+m:=by omega
  rw [this]
 rw [e];have:=pick_run xs i k;rw [ma] at this;have e2:((fun x=>xs[x]?)∘fun x=>i+x)=fun m=>xs[i+m]?:=rfl
 rw [e2] at this;rw [this]
theorem getItem_tuple_cut {t sl:Addr} {items:Array Value} {vl vu:Value} {lo hi:Option Int} {Q:Value->Shared->Prop} (ht:IsTup s.heap t items) (hs:s.heap.IsSliceOf sl vl vu .none) (pl:IsPart vl lo) (pu:IsPart vu hi)
    (hw:¬ (sIx items.size 0 lo=0/\sIx items.size items.size hi=items.size))
    (h:Q (.ref s.heap.objs.size) { s with heap:=s.heap.push { cls:=.type "tuple", data:=.seq ((items.toList.drop (sIx items.size 0 lo)).take (sIx items.size items.size hi - sIx items.size 0 lo)).toArray } })
    (hsz:items.size<=sizeLine):wpAny (model prog w) A (getItem (.ref t) (.ref sl)) Q E s:=by
  have htake:sizeOk (.seq ((items.toList.drop (sIx items.size 0 lo)).take (sIx items.size items.size hi - sIx items.size 0 lo)).toArray):=by
    show ((items.toList.drop (sIx items.size 0 lo)).take (sIx items.size items.size hi - sIx items.size 0 lo)).toArray.size<=sizeLine;rw [jq,lL,mL,Array.length_toList];omega
  have hj:sIx items.size items.size hi<=items.size:=sIx_le _ _ (ju _) hi;obtain ⟨os,hos,hcs,hds⟩:=id hs
  have hTs:s.TypeIs (.ref sl) "slice" := ⟨os,hos,hcs⟩
  unfold getItem
  try with_reducible refine wpAny_holding ?_
  first | refine wpAny_bind (wpAny_pure ?_) | skip
  refine wpAny_bind (wpAny_sequenceKey ht.typeIs (by decide) ?_)
  refine wpAny_bind (wpAny_callSpecial?_slot (name:=Str.ofString "__getitem__") ht.typeIs kb
    (wpAny_call_entry kb ht.typeIs entry_tuple_getitem ?_ (args_tuple_getitem _ _)))
  show wpAny _ _ (Builtin.Tuple.tupleItemsOf (.ref t) >>= _) _ _ s;refine wpAny_bind (tupleItemsOf_ ht ?_);refine wpAny_bind (wpAny_typeOf hTs ?_);rw [if_pos (by decide)];refine wpAny_bind (sliceApplied_gen hs pl pu ?_);have hno:¬ ((((sIx items.size 0 lo:Nat):Int) == 0 && (1:Int) == 1 && (sIx items.size items.size hi - sIx items.size 0 lo) == items.size)=true):=by
    intro q;rw [jh,jh] at q;have q1:((sIx items.size 0 lo:Nat):Int)=0:=eq_of_beq q.1.1;have q2:sIx items.size items.size hi - sIx items.size 0 lo=items.size:=eq_of_beq q.2;exact hw ⟨by omega,by omega⟩
  show wpAny _ _ (if (((sIx items.size 0 lo:Nat):Int) == 0 && (1:Int) == 1 && (sIx items.size items.size hi - sIx items.size 0 lo) == items.size)=true then _ else _) _ _ s;rw [if_neg hno,SW]
  first
    | exact wpAny_bind (m:=Builtin.Tuple.tupleExact _) (wpAny_newObj_type (wpAny_pure ⟨_,rfl,wpAny_pure h⟩) htake)
    | exact wpAny_bind (m:=Builtin.Tuple.tupleExact _) (wpAny_newObj_type (wpAny_bind (wpAny_pure (wpAny_pure ⟨_,rfl,wpAny_pure h⟩))) htake)
    | exact wpAny_bind (wpAny_bind (m:=Builtin.Tuple.tupleExact _) (wpAny_newObj_type (wpAny_pure (wpAny_pure ⟨_,rfl,wpAny_pure h⟩)) htake))
    | exact wpAny_bind (wpAny_bind (m:=Builtin.Tuple.tupleExact _) (wpAny_newObj_type (wpAny_pure ⟨_,rfl,wpAny_pure h⟩) htake))
end
end HT
namespace L2
open PySem PySem.Spec PyProof.Rows
abbrev TO:=St->Hp->(Option Int->Hp->Prop)->Prop
def PO (X:Cx) (e:Option Expr) (t:TO):Prop:=
 ∀ (pins:List (Addr×Obj)) (s:Shared) (σ:St) (H:Hp) (Q:Option Int->Hp->Prop),Inv X pins σ H s->t σ H Q ->
  wpAny (model X.prog X.w) X.A (evalPart e X.env) (fun u s'=>∃ o H',Inv X pins σ H' s'/\IsPart u o/\Q o H') X.xe s
abbrev VE:TO:=fun _ H Q=>Q none H
abbrev cw (t:TE):TO:=fun σ H Q=>t σ H fun x H1=>∃ i,x=.int i/\Q (some i) H1
theorem CO {ns:List Int}:∀ {us:List Value},AD (ns.map V.int) us->IntsAre us ns:=by
 induction ns with
 | nil=>intro us r;rw [lZ] at r;cases r;exact .nil
 | cons n ns ih =>
  intro us r;rw [jz] at r;cases r with
  | cons r1 r2 =>
   obtain ⟨t,e⟩:=r1;subst e;exact .cons n t (ih r2)
section
variable {X:Cx} {e:Expr} {te:TE} {lo hi:Option Expr} {tl th:TO} {pos p2:Pos}
theorem Vq:PO X none VE:=by
 intro pins s σ H Q I h;rw [evalPart_none];exact wpAny_pure ⟨none,H,I,.none,h⟩
theorem Vp (h:PE X e te):PO X (some e) (cw te):=by
 intro pins s σ H Q I hw;rw [evalPart_some];refine Ae (h pins s σ H _ I hw) fun u s1 ⟨x,H1,I1,r1,q1⟩=>?_
 obtain ⟨i,rfl,q⟩:=q1;obtain ⟨t,rfl⟩:=r1;exact ⟨some i,H1,I1,.int i t,q⟩
def Qz (X:Cx) (r:V->Option Int->Option Int->Hp->VK->Prop):Prop:=
 ∀ (pins:List (Addr×Obj)) (s:Shared) (σ:St) (H:Hp) (x:V) (v vl vu:Value) (lo hi:Option Int) (sl:Addr) (Q:VK),Inv X pins σ H s->RelV x v->s.heap.IsSliceOf sl vl vu .none->IsPart vl lo->IsPart vu hi->r x lo hi H Q ->
  ∃ T id,typeLookup (.type T) "__getitem__" = pure (some (.builtin id))/\s.TypeIs v T/\wpAny (model X.prog X.w) X.A (getItem v (.ref sl)) (EP X pins σ Q) X.xe s
theorem Qz.or {r r':V->Option Int->Option Int->Hp->VK->Prop} (h:Qz X r) (h':Qz X r'):Qz X (fun x lo hi H Q=>r x lo hi H Q\/r' x lo hi H Q):=by
 intro pins s σ H x v vl vu lo hi sl Q I rx hs pl pu q;rcases q with q | q
 ·exact h pins s σ H x v vl vu lo hi sl Q I rx hs pl pu q
 ·exact h' pins s σ H x v vl vu lo hi sl Q I rx hs pl pu q
abbrev jA (r:V->Option Int->Option Int->Hp->VK->Prop) (te:TE) (tl th:TO):TE:=fun σ H Q=>te σ H fun x H1=>tl σ H1 fun l H2=>th σ H2 fun u H3=>r x l u H3 Q
theorem SZ {r:V->Option Int->Option Int->Hp->VK->Prop} (hr:Qz X r) (he:PE X e te) (hl:PO X lo tl) (hu:PO X hi th):PE X (.Subscript e (.Slice lo hi none p2) pos) (jA r te tl th):=by
 intro pins s σ H Q I h;refine Subscript_ (Ae (he pins s σ H _ I h) fun v s1 ⟨x,H1,I1,r1,q1⟩=>?_);refine wpAny_Slice (Ae (hl pins s1 σ H1 _ I1 q1) fun vl s2 ⟨l,H2,I2,pl,q2⟩=>Ae (hu pins s2 σ H2 _ I2 q2) fun vu s3 ⟨u,H3,I3,pu,q3⟩=>?_);rw [evalPart_none];refine wpAny_pure ?_
 have I4:Inv X pins σ H3 { s3 with heap:=s3.heap.push { cls:=.type "slice", data:=.fields #[vl,vu,.none] } }:=I3.kept (t':=s3.toks) fun b ob q=>jm _ q
 obtain ⟨T,id,hT,ht,hg⟩:=hr pins { s3 with heap:=s3.heap.push { cls:=.type "slice", data:=.fields #[vl,vu,.none] } } σ H3 x v vl vu l u s3.heap.objs.size Q I4 r1 (Heap.IsSliceOf.new ..) pl pu q3
 show wpAny (model X.prog X.w) X.A (subscriptTail e (.Slice lo hi none p2) v (.ref s3.heap.objs.size)) (EP X pins σ Q) X.xe { s3 with heap:=s3.heap.push { cls:=.type "slice", data:=.fields #[vl,vu,.none] } }
 exact tail_any (ops:=[.ref s3.heap.objs.size,v]) ht hT hg (by with_unfolding_all rfl)
def Ep (xs:List V) (lo hi:Option Int):List V:=(xs.drop (HT.sIx xs.length 0 lo)).take (HT.sIx xs.length xs.length hi - HT.sIx xs.length 0 lo)
theorem Fy (xs:List V) (lo hi:Option Int):(Ep xs lo hi).length<=xs.length:=by
 unfold Ep;rw [lL,mL];omega
def df (K:W.Frag):V->Option Int->Option Int->Hp->VK->Prop:=fun x lo hi H Q=>∃ a xs,x=.ref a/\Cr K H a xs /\
 ¬ (HT.sIx xs.length 0 lo=0/\HT.sIx xs.length xs.length hi=xs.length)/\∀ p,H p=none->Q (.ref p) (upd H p (.tup (Ep xs lo hi)))
theorem ZJ:Qz X (df X.K):=by
 intro pins s σ H x v vl vu lo hi sl Q I rx hs pl pu h;obtain ⟨a,xs,rfl,hx,hw,q⟩:=h;cases rx;obtain ⟨its,r,ht,hz⟩:=I.tuple hx;have hlen:its.toArray.size=xs.length:=by rw [jq];exact r.length.symm
 refine ⟨"tuple", _,kb.lookup,ht.typeIs,?_⟩
 refine HT.getItem_tuple_cut ht hs pl pu (by rw [hlen];exact hw) ?_ (by rw [hlen];exact hz);rw [hlen];refine ⟨.ref s.heap.objs.size,_,I.laid (t':=s.toks) (o:=.tup (Ep xs lo hi)) (fun b ob q=>jm _ q) (ju _) ?_,rfl,q _ (I.hok.fresh (ju _))⟩;exact ⟨kM (Fy xs lo hi) hz,_,(r.drop (HT.sIx xs.length 0 lo)).take (HT.sIx xs.length xs.length hi - HT.sIx xs.length 0 lo),GH.new _ _⟩
def dr (K:W.Frag):R2:=fun x y H Q=>∃ a b ns ms,x=.ref a/\y=.ref b/\Cr K H a (ns.map V.int)/\Cr K H b (ms.map V.int)/\Q (.bl (HT.lexLt ns ms)) H
theorem aK (hu:X.A.units < cLine):CQ X (compareOp .Lt) (dr X.K):=by
 intro pins s σ H x y v u Q I rx ry h;obtain ⟨a,b,ns,ms,rfl,rfl,ha,hb,q⟩:=h;cases rx;cases ry;obtain ⟨its,r1,p1,_⟩:=I.tuple ha;obtain ⟨its2,r2,p2,_⟩:=I.tuple hb;have i1:IntsAre its.toArray.toList ns:=CO r1;have i2:IntsAre its2.toArray.toList ms:=CO r2;exact HT.lt_tupInts p1 p2 i1 i2 hu ⟨.bl (HT.lexLt ns ms),H,I,rfl,q⟩
def YA (K:W.Frag):R2:=fun x y H Q=>∃ a b xs ys,x=.ref a/\y=.ref b/\Cr K H a xs/\Cr K H b ys/\xs≠[]/\xs.length+ys.length<=sizeLine /\
 (ys=[]->Q (.ref a) H)/\(ys≠[]->∀ p,H p=none->Q (.ref p) (upd H p (.tup (xs++ys))))
theorem AD.nil_iff {xs:List V} {us:List Value} (r:AD xs us):us=[]↔xs=[]:=by
 cases r with
 | nil=>simp
 | cons _ _=>simp
theorem WC:CQ X (binaryOp .Add) (YA X.K):=by
 intro pins s σ H x y v u Q I rx ry h;obtain ⟨a,b,xs,ys,rfl,rfl,ha,hb,hx,hz,q1,q2⟩:=h;cases rx;cases ry;obtain ⟨its,r1,p1,_⟩:=I.tuple ha;obtain ⟨its2,r2,p2,_⟩:=I.tuple hb;refine HT.cat_tup p1 p2 (fun z=>hx (r1.nil_iff.mp z)) (fun z=>⟨.ref a,H,I,rfl,q1 (r2.nil_iff.mp z)⟩) (fun z=>?_) (by rw [<- r1.length,<- r2.length];exact hz);refine ⟨.ref s.heap.objs.size,_,I.laid (t':=s.toks) (o:=.tup (xs++ys)) (fun b ob q=>jm _ q) (ju _) ?_,rfl,q2 (fun w=>z (r2.nil_iff.mpr w)) _ (I.hok.fresh (ju _))⟩;exact ⟨by rw [kT];exact hz,_,r1.append r2,GH.new _ _⟩
end
noncomputable def Me (n:Nat) (i:Int):Option Nat:=if 0<=i then (if i < n then some i.toNat else none) else if -(n:Int)<=i then some (i+n).toNat else none
def ED {α:Type} (xs:List α) (i:Int):Option α:=(Me xs.length i).bind fun j=>xs[j]?
theorem OJ {n:Nat} {i:Int} {j:Nat} (h:Me n i=some j):seqIndex? i n=some j/\j < n/\-(n:Int)<=i/\i < n:=by
 unfold Me at h
 by_cases h0:0<=i
 ·rw [if_pos h0] at h
  by_cases h1:i < n
  ·rw [if_pos h1] at h;have e:i.toNat=j:=Option.some.inj h;exact ⟨by rw [seqIndex_of h0 h1,e],by omega,by omega,h1⟩
  ·rw [if_neg h1] at h;cases h
 ·rw [if_neg h0] at h
  by_cases h1:-(n:Int)<=i
  ·rw [if_pos h1] at h;have e:(i+n).toNat=j:=Option.some.inj h;exact ⟨by rw [seqIndex_neg (by omega) h1,e],by omega,h1,by omega⟩
  ·rw [if_neg h1] at h;cases h
theorem Jm {α:Type} {xs:List α} {i:Int} {v:α} (h:ED xs i=some v):∃ j,seqIndex? i xs.length=some j/\xs[j]?=some v/\j < xs.length/\-(xs.length:Int)<=i/\i < xs.length:=by
 unfold ED at h;cases e:Me xs.length i with
 | none=>rw [e] at h;cases h
 | some j =>
  rw [e] at h;obtain ⟨h1,h2,h3,h4⟩:=OJ e;exact ⟨j,h1,h,h2,h3,h4⟩
theorem atI_nat {α:Type} {xs:List α} {j:Nat} {v:α} (h:xs[j]?=some v):ED xs (j:Int)=some v:=by
 have hj:j < xs.length:=(jo.mp h).1;have e:Me xs.length (j:Int)=some j:=by
  unfold Me;rw [if_pos (by omega),if_pos (by omega)];simp
 unfold ED;rw [e];exact h
def Ot (b:Expr):Prop:=∀ o i,subscripted b false o i=operate [o,i] (getItem o i)
def Qu (X:Cx) (r:R2):Prop:=
 ∀ (value slice:Expr) (pins:List (Addr×Obj)) (s:Shared) (σ:St) (H:Hp) (x y:V) (v u:Value) (Q:VK),Inv X pins σ H s->RelV x v->RelV y u->r x y H Q ->
  subscripted slice false v u=operate [v,u] (getItem v u)->wpAny (model X.prog X.w) X.A (subscriptTail value slice v u) (EP X pins σ Q) X.xe s
def cM (X:Cx) (id:String) (r:V->List V->Hp->VK->Prop):Prop:=
 ∀ (pins:List (Addr×Obj)) (s:Shared) (σ:St) (H:Hp) (x:V) (xs:List V) (v:Value) (us:List Value) (Q:VK),Inv X pins σ H s->RelV x v->AD xs us->r x xs H Q ->
  wpAny (model X.prog X.w) X.A (call (.builtin id) (v::us)) (EP X pins σ Q) X.xe s
section
variable {X:Cx} {a b:Expr} {ta tb:TE} {pos:Pos}
theorem Qu.or {r r':R2} (h:Qu X r) (h':Qu X r'):Qu X (fun x y H Q=>r x y H Q\/r' x y H Q):=by
 intro value slice pins s σ H x y v u Q I rx ry q hs;rcases q with q | q
 ·exact h value slice pins s σ H x y v u Q I rx ry q hs
 ·exact h' value slice pins s σ H x y v u Q I rx ry q hs
theorem eS {r:R2} (hr:Qu X r) (ha:PE X a ta) (hb:PE X b tb) (hs:Ot b):PE X (.Subscript a b pos) (gQ r ta tb):=by
 intro pins s σ H Q I h;exact Subscript_ (cF ha hb I h fun v u s2 x y H2 I2 rx ry q=>hr a b pins s2 σ H2 x y v u Q I2 rx ry q (hs _ _))
def eA (K:W.Frag):R2:=fun x y H Q=>∃ p xs i v,x=.ref p/\y=.int i/\CB K H p xs/\ED xs i=some v/\Q v H
def dw (K:W.Frag):R2:=fun x y H Q=>∃ p xs i v,x=.ref p/\y=.int i/\Cr K H p xs/\ED xs i=some v/\Q v H
def dz:R2:=fun x y H Q=>∃ z i c,x=.str z/\y=.int i/\z.length<=sizeLine/\ED z.cps.toList i=some c/\Q (.str ⟨#[c]⟩) H
theorem WW:Qu X (eA X.K):=by
  intro value slice pins s σ H x y v u Q I rx ry h hs;obtain ⟨p,xs,i,z,rfl,rfl,hq,he,q⟩:=h;cases rx;obtain ⟨t,rfl⟩:=ry;obtain ⟨its,r,pl,hz⟩:=I.list hq;obtain ⟨j,h1,h2,h3,h4,h5⟩:=Jm he;obtain ⟨w,ew,rw'⟩:=r.get h2;have hl:=r.length;have hn:=FX;have fin:EP X pins σ Q w s:=⟨z,H,I,rw',q⟩
  by_cases h0:0<=i
  · have hj:i.toNat=j:=by
      rw [seqIndex_of h0 h5] at h1;exact Option.some.inj h1
    exact item_listR pl.isList h0 (by omega) (by rw [hj];simpa using ew) fin hs
  · have hj:(i+(its.toArray.size:Int)).toNat=j:=by
      rw [seqIndex_neg (by omega) h4] at h1;rw [jq,<- hl];exact Option.some.inj h1
    exact subscriptTail_builtinR (x:=w) pl.isList.typeIs slot_list_getitem.lookup
      (wpAny_getItem_list_neg (Q:=fun r s'=>r=w/\EP X pins σ Q r s') pl.isList (by omega) (by rw [jq]<;>omega) (by omega) (by rw [hj];simpa using ew) ⟨rfl,fin⟩) hs
theorem ak:Qu X (dw X.K):=by
 intro value slice pins s σ H x y v u Q I rx ry h hs;obtain ⟨p,xs,i,z,rfl,rfl,hq,he,q⟩:=h;cases rx;obtain ⟨t,rfl⟩:=ry;obtain ⟨its,r,pl,hz⟩:=I.tuple hq;obtain ⟨j,h1,h2,h3,h4,h5⟩:=Jm he;obtain ⟨w,ew,rw'⟩:=r.get h2;have hl:=r.length;have hn:=FX;have fin:EP X pins σ Q w s:=⟨z,H,I,rw',q⟩;exact subscriptTail_builtinR (x:=w) pl.typeIs slot_tuple_getitem.lookup
  (getItem_tuple (j:=j) (Q:=fun r s'=>r=w/\EP X pins σ Q r s') pl (by omega) (by omega) (by rw [jq,<- hl];exact h1) (by simpa using ew) ⟨rfl,fin⟩) hs
theorem ao:Qu X dz:=by
 intro value slice pins s σ H x y v u Q I rx ry h hs;obtain ⟨z,i,c,rfl,rfl,hz,he,q⟩:=h;obtain ⟨t,rfl⟩:=rx;obtain ⟨t',rfl⟩:=ry;obtain ⟨j,h1,h2,h3,h4,h5⟩:=Jm he;have hl:z.cps.toList.length=z.length:=by simp [Str.length]
 rw [hl] at h1 h4 h5;have hn:=FX;exact tail_any (typeIs_str s z t) slot_str_getitem.lookup (getItem_str (c:=c) (by
  have e1:decide (i < -(2 ^ 63:Int))=false:=decide_eq_false (by omega);have e2:decide (i >= 2 ^ 63)=false:=decide_eq_false (by omega);rw [e1,e2,Bool.or_false]) (by rw [h1];simpa using h2) ⟨.str ⟨#[c]⟩,H,I.tok _,⟨_,rfl⟩,q⟩) hs
def Za (K:W.Frag):R2:=fun x y H Q=>eA K x y H Q\/dw K x y H Q\/dz x y H Q
theorem aq:Qu X (Za X.K):=WW.or (ak.or ao)
theorem MZ (its:List Value) (n j:Nat) (u:Value):Obj.mapSeq (·.setIfInBounds j u) { cls:=.type "list", data:=.seq its.toArray n }={ cls:=.type "list", data:=.seq (its.set j u).toArray n }:=by
 simp [Obj.mapSeq]
theorem Inv.lst {pins:List (Addr×Obj)} {σ:St} {H:Hp} {s:Shared} {p:Addr} {xs:List V} (I:Inv X pins σ H s) (h:H p=some (.lst xs)) :
    ∃ (its:List Value) (n:Nat),AD xs its/\s.heap.get? p=some { cls:=.type "list", data:=.seq its.toArray n }/\xs.length<=sizeLine:=by
  obtain ⟨z,its,n,r,e⟩:=I.hok p _ h;exact ⟨its,n,r,e,z⟩
theorem Inv.lstUpd {pins:List (Addr×Obj)} {σ:St} {H:Hp} {s:Shared} {p:Addr} {xs ys:List V} {its its':List Value} {n n':Nat} {f:Obj->Obj} (I:Inv X pins σ H s) (h:H p=some (.lst xs))
    (ho:s.heap.get? p=some { cls:=.type "list", data:=.seq its.toArray n }) (hf:f { cls:=.type "list", data:=.seq its.toArray n }={ cls:=.type "list", data:=.seq its'.toArray n' }) (r:AD ys its') (hz:ys.length<=sizeLine) (t:Nat) :
    Inv X pins σ (upd H p (.lst ys)) { s with heap:=s.heap.update p f,toks:=t }:=by
  have e:(s.heap.update p f).get? p=some { cls:=.type "list", data:=.seq its'.toArray n' }:=by
    rw [lP f ho (by rw [hf]<;>rfl),hf]
  refine I.write (x:=p) (e:=p) (by rw [h];trivial) (.inl rfl) (fun b u hb q=>(km _ _ (Ne.symm hb)).trans q) ⟨_,e⟩ ?_;exact ⟨hz,its',n',r,e⟩
def SG:V->V->V->Hp->(Hp->Prop)->Prop:=fun o i v H Q=>∃ p xs k j,o=.ref p/\i=.int k/\H p=some (.lst xs)/\Me xs.length k=some j/\Q (upd H p (.lst (xs.set j v)))
theorem set_list:Jw X SG:=by
  intro pins s σ H o i v ov iv u Q I ro ri rv h;obtain ⟨p,xs,k,j,rfl,rfl,hp,hj,q⟩:=h;cases ro;obtain ⟨t,rfl⟩:=ri;obtain ⟨its,n,r,ho,hz⟩:=I.lst hp;obtain ⟨h1,h2,h3,h4⟩:=OJ hj;have hl:=r.length;have hn:=FX;have I':Inv X pins σ (upd H p (.lst (xs.set j v))) { s with heap:=s.heap.update p (Obj.mapSeq (·.setIfInBounds j u)) }:=
    I.lstUpd hp ho (MZ its n j u) (r.set rv j) (by rw [kR];exact hz) s.toks
  by_cases h0:0<=k
  · have hk:k.toNat=j:=by
      rw [seqIndex_of h0 h4] at h1;exact Option.some.inj h1
    exact W.ki_setAt ho h0 (by omega) (by rw [jq,<- hl];exact h4) (by rw [hk];exact ⟨_,I',q⟩)
  · have hk:(k+(its.toArray.size:Int)).toNat=j:=by
      rw [seqIndex_neg (by omega) h3] at h1;rw [jq,<- hl];exact Option.some.inj h1
    exact W.ki_setBack ho (by omega) (by rw [jq,<- hl];exact h3) (by omega) (by rw [hk];exact ⟨_,I',q⟩)
theorem JF (lo hi:Option Int) (n:Nat):(sliceBounds lo hi none n).1=((HT.sIx n 0 lo:Nat):Int)/\(sliceBounds lo hi none n).2.1=((HT.sIx n n hi:Nat):Int)/\(sliceBounds lo hi none n).2.2=1:=by
 refine ⟨?_,?_,rfl⟩
 ·cases lo with
  | none=>simp [sliceBounds,HT.sIx]
  | some i =>
   simp only [sliceBounds,HT.sIx,Option.getD_none,show (1:Int) > 0 by decide,if_true]
   by_cases h:i < 0
   ·simp only [h,if_true]<;>omega
   ·simp only [h,if_false]<;>omega
 ·cases hi with
  | none=>simp [sliceBounds,HT.sIx]
  | some i =>
   simp only [sliceBounds,HT.sIx,Option.getD_none,show (1:Int) > 0 by decide,if_true]
   by_cases h:i < 0
   ·simp only [h,if_true]<;>omega
   ·simp only [h,if_false]<;>omega
theorem Hg (its:List Value) (lo hi:Option Int):slicePick its.toArray lo hi none=((its.drop (HT.sIx its.length 0 lo)).take (HT.sIx its.length its.length hi - HT.sIx its.length 0 lo)).toArray:=by
 obtain ⟨h1,h2,h3⟩:=JF lo hi its.toArray.size;unfold slicePick;rw [h1,h2,h3];simp only [sliceRange_one,pick_run,jq]<;>rfl
def dh (K:W.Frag):V->Option Int->Option Int->Hp->VK->Prop:=fun x lo hi H Q=>∃ a xs,x=.ref a/\CB K H a xs/\∀ p,H p=none->Q (.ref p) (upd H p (.lst (Ep xs lo hi)))
theorem VS:Qz X (dh X.K):=by
 intro pins s σ H x v vl vu lo hi sl Q I rx hs pl pu h;obtain ⟨a,xs,rfl,hx,q⟩:=h;cases rx;obtain ⟨its,r,ht,hz⟩:=I.list hx;have hlen:=r.length
 refine ⟨"list", _,slot_list_getitem.lookup,ht.isList.typeIs,?_⟩
 refine wpAny_getItem_list_slice ht.isList hs pl pu .none (by simp) ?_ (by rw [jq]<;>omega);rw [Hg,<- hlen];refine ⟨.ref s.heap.objs.size,_,I.laid (t':=s.toks) (o:=.lst (Ep xs lo hi)) (fun b ob q=>jm _ q) (ju _) ?_,rfl,q _ (I.hok.fresh (ju _))⟩;exact ⟨kM (Fy xs lo hi) hz,_,0,(r.drop (HT.sIx xs.length 0 lo)).take (HT.sIx xs.length xs.length hi - HT.sIx xs.length 0 lo),kD _ rfl⟩
noncomputable def EH:V->Bool
 | .non=>true
 | .bl _=>true
 | .int _=>true
 | .str _=>true
 | _=>false
noncomputable def eqV:V->V->Bool
 | .non,.non=>true
 | .bl a,.bl b=>a == b
 | .bl a,.int b=>(if a then 1 else 0) == b
 | .int a,.bl b=>a == (if b then 1 else 0)
 | .int a,.int b=>a == b
 | .str a,.str b=>a == b
 | _,_=>false
theorem bN {A:Around} {s:Shared} {y x:V} {u v:Value} (ry:RelV y u) (rx:RelV x v) (fy:EH y=true) (fx:EH x=true):SeqAt.EqAt A s u v (eqV y x):=by
 cases y with
 | non =>
  cases ry;cases x with
  | non=>cases rx;exact SeqAt.EqAt.same _
  | bl b=>cases rx;exact SeqAt.EqAt.none_bool b
  | int b=>obtain ⟨t,rfl⟩:=rx;exact SeqAt.EqAt.none_int b t
  | str b=>obtain ⟨t,rfl⟩:=rx;exact SeqAt.EqAt.none_str b t
  | _=>exact absurd (show false=true from fx) kI
 | bl a =>
  cases ry;cases x with
  | non=>cases rx;exact SeqAt.EqAt.bool_none a
  | bl b=>cases rx;exact SeqAt.EqAt.bool_bool a b
  | int b=>obtain ⟨t,rfl⟩:=rx;exact SeqAt.EqAt.bool_int a b t
  | str b=>obtain ⟨t,rfl⟩:=rx;exact SeqAt.EqAt.bool_str a b t
  | _=>exact absurd (show false=true from fx) kI
 | int a =>
  obtain ⟨t',rfl⟩:=ry;cases x with
  | non=>cases rx;exact SeqAt.EqAt.int_none a t'
  | bl b=>cases rx;exact SeqAt.EqAt.int_bool a t' b
  | int b=>obtain ⟨t,rfl⟩:=rx;exact SeqAt.EqAt.int_int a t' b t
  | str b=>obtain ⟨t,rfl⟩:=rx;exact SeqAt.EqAt.int_str a t' b t
  | _=>exact absurd (show false=true from fx) kI
 | str a =>
  obtain ⟨t',rfl⟩:=ry;cases x with
  | non=>cases rx;exact SeqAt.EqAt.str_none a t'
  | bl b=>cases rx;exact SeqAt.EqAt.str_bool a t' b
  | int b=>obtain ⟨t,rfl⟩:=rx;exact SeqAt.EqAt.str_int a t' b t
  | str b=>obtain ⟨t,rfl⟩:=rx;exact SeqAt.EqAt.str_str a t' b t
  | _=>exact absurd (show false=true from fx) kI
 | _=>exact absurd (show false=true from fy) kI
theorem BC.or {f:Value} {r r':List V->Hp->VK->Prop} (h:BC X f r) (h':BC X f r'):BC X f (fun xs H Q=>r xs H Q\/r' xs H Q):=by
 intro pins s σ H xs us Q I rs q;rcases q with q | q
 ·exact h pins s σ H xs us Q I rs q
 ·exact h' pins s σ H xs us Q I rs q
theorem Jh:BC X (.type "list") (fun xs H Q=>∃ p ys,xs=[.ref p]/\(CB X.K H p ys\/Cr X.K H p ys)/\∀ l,H l=none->Q (.ref l) (upd H l (.lst ys))):=by
  intro pins s σ H xs us Q I r h;obtain ⟨p,ys,rfl,hq,q⟩:=h;obtain ⟨u,rfl,rx⟩:=vals1 r;cases rx;have fin:∀ (its:List Value),AD ys its->ys.length<=sizeLine->∀ (h':Heap) (c':Nat),(∀ b o',s.heap.get? b=some o'->h'.get? b=some o') ->
      h'.get? s.heap.objs.size=some { cls:=.type "list", dict:=none,data:=.seq its.toArray c',slots:=#[] }->EP X pins σ Q (.ref s.heap.objs.size) { s with heap:=h' }:=fun its r' hz h' c' kp e =>
    ⟨.ref s.heap.objs.size,_,I.laid (t':=s.toks) kp (ju _) (show An X.prog X.w _ h' _ (.lst ys) from ⟨hz,its,c',r',e⟩),rfl,q _ (I.hok.fresh (ju _))⟩
  rcases hq with hq | hq
  · obtain ⟨its,r',pl,hz⟩:=I.list hq;have hlen:=r'.length;obtain ⟨o,ho,hc,n,hd⟩:=pl.isList;exact call_list_seq p (.inl rfl) ho hc hd (fun h' c' kp e=>fin its r' hz h' c' kp e) (by simp only [jq]<;>omega)
  · obtain ⟨its,r',pl,hz⟩:=I.tuple hq;have hlen:=r'.length;obtain ⟨o,ho,hc,n,hd⟩:=pl;exact call_list_seq p (.inr rfl) ho hc hd (fun h' c' kp e=>fin its r' hz h' c' kp e) (by simp only [jq]<;>omega)
theorem Hn:BC X (.type "tuple") (fun xs H Q=>∃ p ys,xs=[.ref p]/\((CB X.K H p ys/\∀ l,H l=none->Q (.ref l) (upd H l (.tup ys)))\/(Cr X.K H p ys/\Q (.ref p) H))):=by
 intro pins s σ H xs us Q I r h;obtain ⟨p,ys,rfl,h⟩:=h;obtain ⟨u,rfl,rx⟩:=vals1 r;cases rx;rcases h with ⟨hq,q⟩ | ⟨hq,q⟩
 ·obtain ⟨its,r',pl,hz⟩:=I.list hq;have hlen:=r'.length;refine call_tuple_list pl.isList (fun h' kp=>?_) (by simp only [jq]<;>omega);have I1:Inv X pins σ H { s with heap:=h' }:=I.kept (t':=s.toks) kp
  have I2:Inv X pins σ (upd H h'.objs.size (.tup ys)) { s with heap:=h'.push { cls:=.type "tuple", data:=.seq its.toArray } }:=
   I1.laid (t':=s.toks) (fun b o e=>jm _ e) (ju _) (show An X.prog X.w _ _ _ (.tup ys) from ⟨hz,its,r',GH.new _ _⟩)
  exact ⟨.ref h'.objs.size,_,I2,rfl,q _ (I1.hok.fresh (ju _))⟩
 ·obtain ⟨its,r',pl,hz⟩:=I.tuple hq;exact call_tuple_same pl ⟨.ref p,H,I,rfl,q⟩
def gO (K:W.Frag) (T:String) (x:V) (H:Hp):Prop:=match x with
  | .str _=>T = "str"
  | .int _=>T = "int"
  | .ref p=>(T = "list" /\ ∃ xs,CB K H p xs)\/(T = "tuple" /\ ∃ o,K.lookup p=some o/\o.cls=.type "tuple" /\ o.dict=none) \/
      (T = "dict" /\ ((∃ kvs,H p=some (.dK kvs))\/∃ kvs,H p=some (.dT kvs)))\/(T = "set" /\ ∃ S n,H p=some (.set S n))
  | _=>False
theorem RM {pins:List (Addr×Obj)} {σ:St} {H:Hp} {s:Shared} {T:String} {x:V} {v:Value} (I:Inv X pins σ H s) (r:RelV x v) (ty:gO X.K T x H) :
    s.TypeIs v T/\∀ a,v=.ref a->∃ ob,s.heap.get? a=some ob/\ob.dict=none:=by
  cases x with
  | str z =>
    obtain ⟨t,rfl⟩:=r
    cases (show T = "str" from ty)
    exact ⟨typeIs_str s z t,fun _ e=>nomatch e⟩
  | int i =>
    obtain ⟨t,rfl⟩:=r
    cases (show T = "int" from ty)
    exact ⟨typeIs_int s i t,fun _ e=>nomatch e⟩
  | ref p =>
    cases r;rcases ty with ⟨rfl,xs,hq⟩ | ⟨rfl,o,hk,hc,hd⟩ | ⟨rfl,hk⟩ | ⟨rfl,S,n,hk⟩
    · obtain ⟨its,_,pl,_⟩:=I.list hq;refine ⟨pl.isList.typeIs,fun a e=>?_⟩;cases e;obtain ⟨o,n,e,c,hd,_⟩:=pl;exact ⟨o,e,hd⟩
    · refine ⟨⟨o,I.kIn p o hk,hc⟩,fun a e=>?_⟩;cases e;exact ⟨o,I.kIn _ o hk,hd⟩
    · have z:∃ o,s.heap.get? p=some o/\o.ExactDict:=by
        rcases hk with ⟨kvs,hk⟩ | ⟨kvs,hk⟩
        · obtain ⟨_,_,_,_,o,_,_,e,ex,_⟩:=I.hok p _ hk;exact ⟨o,e,ex⟩
        · obtain ⟨_,_,_,_,o,_,_,e,ex,_⟩:=I.hok p _ hk;exact ⟨o,e,ex⟩
      obtain ⟨o,e,ex⟩:=z;refine ⟨⟨o,e,ex.1⟩,fun a e2=>?_⟩;cases e2;exact ⟨o,e,ex.2.1⟩
    · obtain ⟨o,_,_,_,e,ex,_⟩:=I.hok p _ hk;refine ⟨⟨o,e,ex.1⟩,fun a e2=>?_⟩;cases e2;exact ⟨o,e,ex.2.1⟩
  | _=>exact False.elim ty
abbrev gu (K:W.Frag) (T:String) (r:V->List V->Hp->VK->Prop) (to:TE):TE:=fun σ H Q=>to σ H fun x H1=>gO K T x H1/\r x [] H1 Q
abbrev dG (K:W.Frag) (T:String) (r:V->List V->Hp->VK->Prop) (to:TE) (t:TA):TE:=fun σ H Q=>to σ H fun x H1=>gO K T x H1/\t σ H1 fun xs H2=>r x xs H2 Q
variable {o e:Expr} {es:List Expr} {to:TE} {t:TA} {name:Str} {apos cpos:Pos} {T id:String} {r:V->List V->Hp->VK->Prop}
theorem Sf (pa:PlainAttrs T) (slot:Slot T name id) (hty:typeOf (.builtin id)=pure (.type "method_descriptor")) (hm:cM X id r) (ho:PE X o to)
    (hbase:attributeBase o name X.env (eval o X.env)=eval o X.env:=by rfl) (hline:(apos.endLine == cpos.line)=true:=by rfl):PE X (.Call (.Attribute o name apos) [] [] cpos) (gu X.K T r to):=by
  intro pins s σ H Q I h;refine wpAny_Call_method0_late hbase hline (Ae (ho pins s σ H _ I h) fun v s1 ⟨x,H1,I1,r1,ty,q1⟩=>?_);obtain ⟨h1,h2⟩:=RM I1 r1 ty;exact ⟨T,id,pa,slot,hty,h1,h2,Calls.callWith_builtin rfl (PySem.evalArgs_none (hm pins s1 σ H1 x [] v [] Q I1 r1 .nil q1))⟩
theorem YC (pa:PlainAttrs T) (slot:Slot T name id) (hty:typeOf (.builtin id)=pure (.type "method_descriptor")) (hm:cM X id r) (ho:PE X o to) (ha:PA X (e::es) t)
    (hbase:attributeBase o name X.env (eval o X.env)=eval o X.env:=by rfl)
    (hfew:((backTo cpos (starEach (e::es) X.env)).all (fun x=>!x.1) && (backToKw cpos (keywordEach [] X.env)).all (fun x=>x.1.isSome)
      && decide ((e::es).length+([]:List Keyword).length+(if ([]:List Keyword).isEmpty then 0 else 1) < 30))=true:=by rfl)
    (hline:(apos.endLine == cpos.line)=true:=by rfl) (hs:starEach (e::es) X.env=(false,eval e X.env)::starEach es X.env:=by rfl) (hplain:(backTo cpos (starEach es X.env)).any (·.1)=false:=by rfl) :
    PE X (.Call (.Attribute o name apos) (e::es) [] cpos) (dG X.K T r to t):=by
  intro pins s σ H Q I h;refine wpAny_Call_method_late hbase hfew hline rfl (Ae (ho pins s σ H _ I h) fun v s1 ⟨x,H1,I1,r1,ty,q1⟩=>?_);obtain ⟨h1,h2⟩:=RM I1 r1 ty;refine ⟨T,id,pa,slot,hty,h1,h2,?_⟩;have hA:=ha cpos pins s1 σ H1 _ I1 q1;rw [hs] at hA ⊢;refine Calls.callWith_builtin (by show (false || (backTo cpos (starEach es X.env)).any (·.1))=false;rw [hplain]<;>rfl) (Calls.evalArgs_plain ?_);exact Ae hA fun us s2 ⟨vs,H2,I2,r2,q2⟩=>hm pins s2 σ H2 x vs v us Q I2 r1 r2 q2
end
def cZ (X:Cx) (id:String) (r:V->List V->Hp->VK->Prop):Prop:=
 ∀ (pins:List (Addr×Obj)) (s:Shared) (σ:St) (H:Hp) (x:V) (xs:List V) (v:Value) (us:List Value) (Q:VK),Inv X pins σ H s->RelV x v->AD xs us->r x xs H Q ->
  wpAny (model X.prog X.w) X.A (call (.builtin id) (v::us)) (EP X pins σ Q) X.xe s
theorem AD.one:∀ {x:V} {us:List Value},AD [x] us->∃ u,us=[u]/\RelV x u
 := by
 intro x us h;cases h with | cons r t=>cases t;exact ⟨_,rfl,r⟩
theorem AD.zero:∀ {us:List Value},AD [] us->us=[]
 | _,.nil=>rfl
theorem AD.dropLast {xs:List V} {us:List Value} (h:AD xs us):AD xs.dropLast us.dropLast:=by
 induction h with
 | nil=>exact .nil
 | cons r t ih =>
  cases t with
  | nil=>exact .nil
  | cons q t'=>exact .cons r ih
theorem AD.rep {xs:List V} {us:List Value} (h:AD xs us):∀ k:Nat,AD (List.replicate k xs).flatten (List.replicate k us).flatten
 | 0=>.nil
 | k+1=>by
  rw [lE,lE,lR,lR];exact AD.append h (AD.rep h k)
theorem Mr {α:Type} (l:List α):l.eraseIdx (l.length - 1)=l.dropLast:=by
 induction l with
 | nil=>rfl
 | cons a r ih =>
  cases r with
  | nil=>rfl
  | cons b r =>
   have e:(a::b::r).length - 1=((b::r).length - 1)+1:=by
    have h1:(a::b::r).length=r.length+2:=rfl;have h2:(b::r).length=r.length+1:=rfl;omega
   rw [e,List.eraseIdx_cons_succ,ih]
   all_goals rfl
theorem foldl_rep (its:List Value):∀ (k:Nat) (acc:List Value),
    List.foldl (fun x1 x2=>x1++x2) acc.toArray (List.replicate k its.toArray)=(acc++(List.replicate k its).flatten).toArray
  | 0,acc=>by simp
  | k+1,acc=>by
    have e:acc.toArray++its.toArray=(acc++its).toArray:=by simp
    have e2:(acc++its)++(List.replicate k its).flatten=acc++(List.replicate (k+1) its).flatten:=by
      rw [lE,lR,kj]
    rw [<- e2,<- foldl_rep its k (acc++its),<- e,lE,mr]
section
variable {X:Cx} {pins:List (Addr×Obj)} {σ:St} {H:Hp} {s:Shared} {l b:Addr} {xs ys zs:List V}
theorem Inv.lset {its its':List Value} {n:Nat} {f:Array Value->Array Value} {t':Nat} (I:Inv X pins σ H s) (hH:H l=some (.lst xs))
    (e:s.heap.get? l=some { cls:=.type "list", data:=.seq its.toArray n }) (hf:f its.toArray=its'.toArray) (hv:AD ys its') (hz:ys.length<=sizeLine) :
    Inv X pins σ (upd H l (.lst ys)) { s with heap:=s.heap.update l (Obj.mapSeq f),toks:=t' }:=by
  have q:=PySem.IsL.update e f;rw [hf] at q;refine I.write (x:=l) (e:=l) (by rw [hH];exact trivial) (.inl rfl) (fun b' u hb hu=>(km s.heap (Obj.mapSeq f) (Ne.symm hb)).trans hu) ⟨_,q⟩ ?_;exact ⟨hz,its',_,hv,q⟩
theorem Inv.lnew {its:List Value} {t':Nat} (I:Inv X pins σ H s) (hv:AD ys its) (hz:ys.length<=sizeLine) :
    Inv X pins σ (upd H s.heap.objs.size (.lst ys)) { s with heap:=s.heap.push { cls:=.type "list", data:=.seq its.toArray },toks:=t' }:=
  I.laid (fun _ _ q=>jm _ q) (ju _) ⟨hz,its,0,hv,kD _ rfl⟩
theorem Inv.fresh (I:Inv X pins σ H s):H s.heap.objs.size=none:=I.hok.fresh (ju _)
theorem Inv.lstM (I:Inv X pins σ H s) (hH:H l=some (.lst xs)):xs.length<=sizeLine/\∃ (its:List Value) (n:Nat),AD xs its/\xs.length=its.length/\s.heap.get? l=some { cls:=.type "list", data:=.seq its.toArray n }:=by
 obtain ⟨z,its,n,r,e⟩:=I.hok l _ hH;exact ⟨z,its,n,r,r.length,e⟩
theorem Kn {n:Nat} (h:n<=sizeLine):Builtin.List.listTooLong n=false:=by
 unfold Builtin.List.listTooLong;exact decide_eq_false (by omega)
end
section
variable {X:Cx}
def Nw:V->List V->Hp->VK->Prop:=fun x vs H Q=>∃ l xs y,x=.ref l/\vs=[y]/\H l=some (.lst xs)/\xs.length < sizeLine/\Q .non (upd H l (.lst (xs++[y])))
theorem Pl:cZ X "list.append" Nw:=by
 intro pins s σ H x vs v us Q I rx rv h;obtain ⟨l,xs,y,rfl,rfl,hH,hz,q⟩:=h;cases rx;obtain ⟨u,rfl,ru⟩:=rv.one;obtain ⟨z,its,n,r,hl,e⟩:=I.lstM hH;refine call_meets F.slot_list_append ⟨_,e,rfl⟩ F.entry_list_append (F.args_list_append_2 _ _) (PySem.list_append l its.toArray n u (by rw [jq];omega)) ⟨e,?_⟩;refine ⟨.non,_,I.lset (its':=its++[u]) hH e (by simp) (r.append (.cons ru .nil)) ?_,rfl,q⟩;rw [kT,mR];omega
def Nv:V->List V->Hp->VK->Prop:=fun x vs H Q=>∃ l b xs zs,x=.ref l/\vs=[.ref b]/\H l=some (.lst xs)/\H b=some (.lst zs)/\xs.length+zs.length<=sizeLine/\Q .non (upd H l (.lst (xs++zs)))
theorem Pk:cZ X "list.extend" Nv:=by
 intro pins s σ H x vs v us Q I rx rv h;obtain ⟨l,b,xs,zs,rfl,rfl,hH,hB,hz,q⟩:=h;cases rx;obtain ⟨u,rfl,ru⟩:=rv.one;cases ru;obtain ⟨z,its,n,r,hl,e⟩:=I.lstM hH;obtain ⟨z2,its2,n2,r2,hl2,e2⟩:=I.lstM hB;have hsz:its.toArray.size+its2.toArray.size<=sizeLine:=by rw [jq,jq];omega
 have hlong:¬ (!its.toArray.isEmpty && Builtin.List.listTooLong (its.toArray.size+its2.toArray.size))=true:=by
  rw [Kn hsz,mx];exact kI
 refine call_meets F.slot_list_extend ⟨_,e,rfl⟩ F.entry_list_extend (F.args_list_extend_2 _ _)
  (AutoSeq1.list_extend_list_list_0 l its.toArray n b its2.toArray n2 hlong (by rw [jq];omega) (by omega)) ⟨e,e2,?_⟩
 refine ⟨.non,_,I.lset (its':=its++its2) hH e (by simp) (r.append r2) ?_,rfl,q⟩;rw [kT];omega
def dq:V->List V->Hp->VK->Prop:=fun x vs H Q=>∃ l xs y,x=.ref l/\vs=[]/\H l=some (.lst xs)/\xs[xs.length - 1]?=some y/\Q y (upd H l (.lst xs.dropLast))
theorem aV:cZ X "list.pop" dq:=by
 intro pins s σ H x vs v us Q I rx rv h;obtain ⟨l,xs,y,rfl,rfl,hH,hy,q⟩:=h;cases rx;have hus:=rv.zero;subst hus;obtain ⟨z,its,n,r,hl,e⟩:=I.lstM hH;obtain ⟨u,hu,ru⟩:=r.get hy;have hy':its.toArray[its.toArray.size - 1]?=some u:=by
  show its.toArray[its.length - 1]?=some u;rw [<- Array.getElem?_toList,<- hl];exact hu
 refine call_meets F.slot_list_pop ⟨_,e,rfl⟩ F.entry_list_pop (F.args_list_pop_1 _) (MeetsSeq.list_pop_last l its.toArray n u hy' (by rw [jq];omega)) ⟨e,?_⟩;refine ⟨y,_,I.lset (its':=its.dropLast) hH e ?_ r.dropLast ?_,ru,q⟩
 ·show its.toArray.eraseIdxIfInBounds (its.toArray.size - 1)=its.dropLast.toArray;rw [jq,List.eraseIdxIfInBounds_toArray,Mr]
 ·rw [List.length_dropLast];omega
def ZZ:V->List V->Hp->VK->Prop:=fun x vs H Q=>∃ l xs i k y,x=.ref l/\vs=[.int i]/\H l=some (.lst xs)/\-(2 ^ 63)<=i/\i < 2 ^ 63/\seqIndex? i xs.length=some k/\xs[k]?=some y/\Q y (upd H l (.lst (xs.eraseIdx k)))
def eE:R2:=fun x y H Q=>∃ l b xs zs,x=.ref l/\y=.ref b/\H l=some (.lst xs)/\H b=some (.lst zs)/\xs.length+zs.length<=sizeLine/\∀ p,H p=none->Q (.ref p) (upd H p (.lst (xs++zs)))
theorem aP:CQ X (binaryOp .Add) eE:=by
 intro pins s σ H x y v u Q I rx ry h;obtain ⟨l,b,xs,zs,rfl,rfl,hH,hB,hz,q⟩:=h;cases rx;cases ry;obtain ⟨z,its,n,r,hl,e⟩:=I.lstM hH;obtain ⟨z2,its2,n2,r2,hl2,e2⟩:=I.lstM hB;refine PySem.P.add_list e e2 ?_ (by rw [jq,jq];omega);have ea:its.toArray++its2.toArray=(its++its2).toArray:=by simp
 rw [ea];exact ⟨.ref _,_,I.lnew (t':=s.toks) (r.append r2) (by rw [kT];omega),rfl,q _ I.fresh⟩
def dn:R2:=fun x y H Q=>∃ l k xs,x=.ref l/\y=.int k/\H l=some (.lst xs)/\-(2 ^ 63)<=k/\k < 2 ^ 63/\xs.length * k.toNat<=sizeLine /\
 ∀ p,H p=none->Q (.ref p) (upd H p (.lst (List.replicate k.toNat xs).flatten))
theorem len_rep {α:Type} (xs:List α) (k:Nat):(List.replicate k xs).flatten.length=k * xs.length:=by
 induction k with
 | zero=>simp
 | succ k ih=>rw [lE,lR,kT,ih,Nat.succ_mul,Nat.add_comm]
theorem aG:CQ X (binaryOp .Mult) dn:=by
 intro pins s σ H x y v u Q I rx ry h;obtain ⟨l,k,xs,rfl,rfl,hH,h1,h2,hz,q⟩:=h;cases rx;obtain ⟨t,rfl⟩:=ry;obtain ⟨z,its,n,r,hl,e⟩:=I.lstM hH;have hlen:its.toArray.size * k.toNat<=sizeLine:=by rw [jq,<- hl];exact hz
 have hcap:¬ its.toArray.size * k.toNat > (2 ^ 63 - 1) / 8:=by
  have:(sizeLine:Nat)<=(2 ^ 63 - 1) / 8:=by decide
  omega
 have hfit:¬ (!Builtin.List.listFitsIndex k)=true:=by
  rw [fitsIndex_both h1 h2];exact kI
 have hlong:¬ Builtin.List.listTooLong (its.toArray.size * k.toNat)=true:=by
  rw [Kn hlen];exact kI
 have hnew:List.foldl (fun x1 x2=>x1++x2) #[] (List.replicate (if its.toArray.isEmpty=true then 0 else k.toNat) its.toArray)=(List.replicate k.toNat its).flatten.toArray:=by
  have f0:∀ m:Nat,List.foldl (fun x1 x2=>x1++x2) #[] (List.replicate m its.toArray)=(List.replicate m its).flatten.toArray:=fun m=>by
   have:=foldl_rep its m [];rw [mD] at this;exact this
  rw [f0];cases its with
  | nil=>simp
  | cons a r'=>rw [if_neg (by simp)]
 refine wpAny_binaryOp_repeat_ref (T := "list") (U := "int") (by decide) ⟨_,e,rfl⟩ (fun s'=>typeIs_int s' k t) noFill_list_mul F.fills_int_mul F.slot_int_rmul repeat_list F.slot_int_index.lookup
  (call_meets F.slot_int_rmul (typeIs_int s k t) F.entry_int_rmul (F.args_int_rmul_2 _ _) (int___rmul___int_list k t l its.toArray n)
   ⟨e,rfl,⟨_,e,rfl⟩,call_meets F.slot_list_mul ⟨_,e,rfl⟩ F.entry_list_mul (F.args_list_mul_2 _ _) (AutoListH.list___mul___list_int_3 l its.toArray n k t hfit hcap hlong) ⟨e,?_⟩⟩)
 rw [hnew];exact ⟨.ref _,_,I.lnew (t':=s.toks) (r.rep k.toNat) (by rw [len_rep,Nat.mul_comm];exact hz),rfl,q _ I.fresh⟩
end
section
end
section
end
end L2
namespace Att
open PySem PySem.W PySem.Calls PyProof.Rows
theorem GE {P:Params} {h:Heap}:∀ (ns:List Int) (vs:List Value),WellAll P h vs (ns.map WData.int)->IntsAre vs ns:=by
 intro ns
 induction ns with
 | nil =>
  intro vs w;rw [lZ] at w;cases w;exact .nil
 | cons n ns ih =>
  intro vs w;rw [jz] at w;cases w with
  | cons a b =>
   cases a;exact .cons _ _ (ih _ b)
theorem PK {l:OpenLaw} {n:Nat} (hn:l.most=some n) {P:Params} {h:Heap} {args:List WData} {vals:List Value}
    (hpre:l.row.toRowW.claim.pre args=true) (hwl:WellAll P h vals args) :
    ∃ a vs ns,vals=[Value.ref a]/\args=[WData.list (ns.map WData.int)]/\h.get? a=some { cls:=.type "list", data:=.seq vs.toArray }/\IntsAre vs ns/\ns.length<=n:=by
  have hsh:WShape.hasAll [] args [.list .int]=true:=(pre_splitW hpre).1;have hc:l.pre.holds [] { args:=args }=true:=(pre_splitW hpre).2;obtain ⟨d,r,rfl,h1,h2⟩:=hasAllW_cons hsh;obtain rfl:=hasAllW_nil h2;obtain ⟨xs,rfl,h3⟩:=hasW_list h1;obtain ⟨ns,rfl⟩:=items_int h3;have hlen:ns.length<=n:=by
    unfold OpenLaw.pre at hc;have h4:(WTm.not (.lt (.lit (.int (n:Int))) (.len (.arg 0)))).holds [] { args:=[.list (ns.map .int)] }=true:=by
      have h4:=(holds_andW hc).1;rw [hn] at h4;exact h4
    have h5:=condW_of h4 (w_not (w_lt w_lit (w_len_list (w_arg rfl))));rw [jv] at h5;refine Nat.le_of_not_lt fun q=>?_
    have q':(n:Int) < ((ns.length:Nat):Int):=by omega
    first
      | (rw [decide_eq_true q'] at h5;exact absurd h5 (by decide))
      | (simp at h5;omega)
  cases hwl with
  | cons w1 w2 =>
    cases w2;cases w1 with
    | list ho hall=>exact ⟨_,_,ns,rfl,rfl,ho,GE ns _ hall,hlen⟩
theorem PV (l:OpenLaw) (args:List WData):l.row.toRowW.claim.post args (.bool true) args=true:=
 postW_of (r:=l.row.toRowW) (X:=(true == true))
  (show WShape.has [] (.bool true) .bool=true by first | rfl | decide | simp [WShape.has,WShape.arms,WShape.armsAll])
  (show (WTm.eq .res (.lit (.bool true))).value [] { args:=args,res:=some (.bool true),after:=args }=some (.bool (true == true)) from w_eq_bool (w_res rfl) w_lit) rfl
theorem attach_call {l:OpenLaw} {n:Nat} {q:Program} {loose:List Str} {XP:(Str->Option Value)->Heap->Prop} {YP:World->Heap->Prop} {d:DefRec}
    (hn:l.most=some n) (hdf:d.params.defaults=[])
    (call:∀ (w:World) (s₀ s₁:Shared) (mg mb:Str->Option Value) (fa:Addr) (o:Obj) (pm cd doc:Value) (a:Addr) (vs:List Value) (ns:List Int),
      Ground q loose [] XP w s₀ mg mb s₁.heap->YP w s₁.heap ->
      s₁.heap.get? fa=some o->o.data=.func (docDef d.name d.params d.body d.scope pm cd doc)->s₁.heap.CodeRec cd d.name->mg d.name=some (.ref fa) ->
      s₁.heap.get? a=some { cls:=.type "list", data:=.seq vs.toArray }->IntsAre vs ns->ns.length<=n->s₁.gens=#[] ->
      codeAny (model l.prog w) callerA (.call (.ref fa) ⟨[.ref a],[]⟩) (fun r s'=>r=.ok (.ret (.bool true))/\OldK s₁.heap s'.heap/\s'.os=s₁.os/\AllBare s'.gens) s₁) :
    WalkO q loose XP YP l.row.toRowW d [] (fun f vs=>PySem.call f vs):=by
  intro w s₀ s₁ mg mb G Y fa o pm cd doc dV kV ho hd hcd hD hmg hg args vals as hpre hlay hrd hwl hlo;obtain rfl:dV=.none:=Dflts.none hD hdf;obtain rfl:kV=.none:=Dflts.noKw hD;obtain ⟨a,vs,ns,rfl,rfl,hobj,hints,hlen⟩:=PK hn hpre hwl;refine enter_call (codeAny_mono (call w s₀ s₁ mg mb fa o pm cd doc a vs ns G Y ho (fd_plain hd) hcd hmg hobj hints hlen hg) fun r s' hq=>?_);obtain ⟨rfl,h2,h3,h4⟩:=hq;exact ⟨.inl ⟨.bool true,.bool true,[],rfl,fun _=>rfl,.bool true,PV l _,fun _=>⟨List.Pairwise.nil,fun _ hm=>(nomatch hm)⟩⟩,h2,h3,h4⟩
section
end
end Att
namespace L2
open PySem PySem.Spec PyProof.Rows
theorem IB:∀ {vs:List Value} {ns:List Int},IntsAre vs ns->AD (ns.map V.int) vs
 | _,_,.nil=>.nil
 | _,_,.cons n t h=>.cons ⟨t,rfl⟩ (IB h)
def Xd (H:Hp):Prop:=∀ b,H b=none\/∃ o xs,H b=some (.frz o (.lst xs))
theorem Sq {P:Program} {w:World} {K:W.Frag} {mg mb:Str->Option Value} {CX:Us} {k:Nat} {fa a:Addr} {fd:FuncData} {x:Str} {sp:Sp} {s₁:Shared} {vs:List Value} {ns:List Int}
    (KX:K.In s₁.heap) (hns:s₁.heap.Ns mainGlobals mg) (hb:s₁.heap.Ns builtinsNs mb) (hbb:∀ x:Str,x ≠ "__name__" -> mb x=bootBuiltins x) (hlim:s₁.heap.NoLimit) (hg:s₁.gens=#[])
    (ha:s₁.heap.get? a=some { cls:=.type "list", data:=.seq vs.toArray }) (hi:IntsAre vs ns) (hl:ns.length<=sizeLine) (hr:Room k callerA)
    (F:∀ base:Heap,K.In base->base.Ns mainGlobals mg->FnOk P w K mg base CX k fa fd [x] sp) (hbind:∀ (s:Shared) (u:Value),BindsTo s fd ⟨[u],[]⟩ [(x,u)])
    (hsp:∀ H:Hp,Xd H->CB K H a (ns.map V.int)->sp [.ref a] H (fun v _=>v=.bl true) fun _ _ _=>False)
    (hCX:∀ H e s',CX [] H s₁ (fun _ _ _=>False) e s'->False) :
    codeAny (model P w) callerA (.call (.ref fa) ⟨[.ref a],[]⟩) (fun r s'=>r=.ok (.ret (.bool true))/\OldK s₁.heap s'.heap/\s'.os=s₁.os/\AllBare s'.gens) s₁:=by
  have rv:=IB hi;have lenV:=hi.length
  -- from an abstract heap in which nothing but the script may be tracked
  have core:∀ H:Hp,Xd H->CB K H a (ns.map V.int)->ER P w H s₁.heap->(∀ b,H b≠none->b=a)->(H a≠none->K.lookup a=none) ->
      codeAny (model P w) callerA (.call (.ref fa) ⟨[.ref a],[]⟩) (fun r s'=>r=.ok (.ret (.bool true))/\OldK s₁.heap s'.heap/\s'.os=s₁.os/\AllBare s'.gens) s₁:=by
    intro H hO hS hok hA hK;have Eu:∀ {b:Addr} {o:Obj},s₁.heap.get? b=some o->H b=none->(JY s₁.heap H).get? b=some o:=fun e n=>Sy e n
    have noA:∀ {b:Addr} {o:Obj} {es:Array DictEntry} {ep:Nat},s₁.heap.get? b=some o->o.data=.dict es ep->H b=none:=fun {b o es ep} e d=>by
      cases q:H b with
      | none=>rfl
      | some u =>
        have e':b=a:=hA b (by rw [q];simp);subst e';rw [ha] at e;cases e;have d':Data.seq vs.toArray _=Data.dict es ep:=d;cases d'
    have nsK:∀ {b:Addr} {m:Str->Option Value},s₁.heap.Ns b m->(JY s₁.heap H).Ns b m:=fun {b m} ⟨o,es,ep,e,d,r⟩=>⟨o,es,ep,Eu e (noA e d),d,r⟩
    have hKb:K.In (JY s₁.heap H):=fun b o e=>Eu (KX b o e) (by
      cases q:H b with
      | none=>rfl
      | some u =>
        have e':b=a:=hA b (by rw [q];simp);subst e';rw [hK (by rw [q];simp)] at e;cases e)
    have hM:Mod K mg (JY s₁.heap H):=⟨hKb,nsK hns,⟨mb,nsK hb,hbb⟩,let ⟨mc,h1,h2⟩:=hlim;⟨mc,nsK h1,h2⟩⟩;have e0:Env0 P w K mg (JY s₁.heap H) callerA [] s₁ H:=⟨rfl,hM,fun b o e=>WJ e,Nat.le_of_eq (QL _ _),trivial,fun b hb=>absurd (show b∈([]:List Addr) from hb) (by simp),hok,.of_eq hg⟩;refine codeAny_mono ((F _ hKb (nsK hns)).run callerA [] s₁ H ⟨[.ref a],[]⟩ [.ref a] [.ref a] _ _ hr e0 (hbind s₁ (.ref a)) (.cons rfl .nil) (hsp H hO hS)) fun r s' h=>?_
    cases r with
    | error e=>exact (hCX H e s' h).elim
    | ok fl =>
      cases fl with
      | next=>exact False.elim h
      | brk=>exact False.elim h
      | cont=>exact False.elim h
      | ret u =>
        obtain ⟨v,H',os,bare,un,hok',r',q⟩:=h;have q':v=.bl true:=q;subst q';obtain rfl:u=Value.bool true:=r';refine ⟨rfl,OldK.of_keep fun b o e=>?_,os,bare⟩;cases q:H b with
        | none=>exact un.keep b o e q (by intro z;exact absurd (show b∈([]:List Addr) from z) (by simp)) (by simp)
        | some u =>
          rcases hO b with z | ⟨ob,xs,z⟩
          · rw [q] at z;cases z
          · have z2:=un.frzs b ob _ z;obtain ⟨e1,_⟩:=hok b _ z;obtain ⟨e2,_⟩:=hok' b _ z2;rw [e] at e1;cases e1;exact e2
  cases hk:K.lookup a with
  | some o =>
    -- the script is one of the module's own objects
    have e:=KX a o hk;rw [ha] at e;cases e;refine core (fun _=>none) (fun _=>.inl rfl) (.inr ⟨_,vs.toArray,_,hk,rfl,rfl,rfl,by rw [jq,lenV];exact hl,by simpa using rv⟩) (fun b u z=>by have z':(none:Option HO)=some u:=z;cases z') (fun b z=>absurd rfl z) fun z=>absurd rfl z
  | none =>
    refine core (fun b=>if b=a then some (.frz { cls:=.type "list", data:=.seq vs.toArray } (.lst (ns.map V.int))) else none) (fun b=>?_) (.inl (.inr ⟨{ cls:=.type "list", data:=.seq vs.toArray },if_pos rfl⟩)) (fun b u z=>?_) (fun b z=>?_) fun _=>hk
    · by_cases hb:b=a
      · exact .inr ⟨_,_,if_pos hb⟩
      · exact .inl (if_neg hb)
    · by_cases hb:b=a
      · have z':=(if_pos hb).symm.trans z;cases z';subst hb;exact ⟨ha,by rw [jv];exact hl,vs,_,rv,ha⟩
      · have z':=(if_neg hb).symm.trans z;cases z'
    · by_cases hb:b=a
      · exact hb
      · exact absurd (if_neg hb) z
theorem walk_of {l:W.OpenLaw} {n k:Nat} {q:Program} {loose:List Str} {XP:(Str->Option Value)->Heap->Prop} {YP:World->Heap->Prop} {d:DefRec} {K:Params->W.Frag} {CX:World->Us} {sp:World->Sp} {x:Str}
    (hn:l.most=some n) (hn2:n<=sizeLine) (hdf:d.params.defaults=[]) (hr:Room k callerA)
    (hY:∀ (w:World) (h:Heap),YP w h->(K w.params).In h)
    (F:∀ (w:World) (mg:Str->Option Value) (fa:Addr) (h:Heap),(K w.params).In h->h.Ns mainGlobals mg->mg d.name=some (.ref fa) ->
      ∃ fd:FuncData,(∀ (s:Shared) (u:Value),BindsTo s fd ⟨[u],[]⟩ [(x,u)]) /\
        ∀ base:Heap,(K w.params).In base->base.Ns mainGlobals mg->FnOk l.prog w (K w.params) mg base (CX w) k fa fd [x] (sp w))
    (hsp:∀ (w:World) (H:Hp) (a:Addr) (ns:List Int),ns.length<=n->Xd H->CB (K w.params) H a (ns.map V.int)->sp w [.ref a] H (fun v _=>v=.bl true) fun _ _ _=>False)
    (hCX:∀ (w:World) (H:Hp) (s:Shared) (e:Value) (s':Shared),CX w [] H s (fun _ _ _=>False) e s'->False) :
    W.WalkO q loose XP YP l.row.toRowW d [] (fun f vs=>PySem.call f vs):=by
  refine Att.attach_call hn hdf fun w s₀ s₁ mg mb fa o pm cd doc a vs ns G Y ho hd hcd hmg hobj hints hlen hg=>?_
  have KX:=hY w _ Y;obtain ⟨fd,hb,hF⟩:=F w mg fa _ KX G.T.g hmg;exact Sq KX G.T.g G.T.b G.T.builtins G.T.nolimit hg hobj hints (kM hlen hn2) hr hF hb (fun H hO hS=>hsp w H a ns hlen hO hS) fun H e s'=>hCX w H s₁ e s'
noncomputable def As (s:Stmt):Arguments:=match s with
 | .FunctionDef _ a _ _ _ _ _ _ _ _=>a
 | _=>{ posonlyargs:=[],args:=[],vararg:=none,kwonlyargs:=[],kw_defaults:=[],kwarg:=none,defaults:=[] }
noncomputable def Ab (s:Stmt):List Stmt:=match s with
 | .FunctionDef _ _ b _ _ _ _ _ _ _=>b
 | _=>[]
noncomputable def AH (s:Stmt):Scope:=match s with
 | .FunctionDef _ _ _ _ _ _ sc _ _ _=>sc
 | _=>{ kind:=.function,names:=[],isGenerator:=false,isCoroutine:=false }
abbrev Qw:Us:=fun _ _ _ _ _ _=>False
abbrev E0:XK:=fun _ _ _=>False
theorem YD {X:Cx}:Jv Qw X E0:=fun _ _ _ _ _ _ _ h=>h.elim
structure Fun (K:W.Frag) (x qual:Str) (st:Stmt) (f:Addr) (fd:FuncData):Prop where
 ex:∃ (oc:Value) (od:Option Addr) (kV doc pm:Value) (an:Option Addr) (cdv ct:Value) (osl:Array (Option Value)),
  fd=W.fnOf x qual (As st) (Ab st) (AH st) .none kV doc pm an cdv ct/\K.lookup f=some ⟨oc,od,.func fd,osl⟩/\W.codeIn K cdv qual=true
 kp:W.keepIn K (.ref f)=true
section
variable {P:Program} {w:World} {K:W.Frag} {mg:Str->Option Value} {base:Heap}
theorem Fun.ok {x qual:Str} {st:Stmt} {f:Addr} {fd:FuncData} {N ps:List Str} {k:Nat} {sp:Sp} (F:Fun K x qual st f fd) (S:FnScope N ps (AH st)) (len:∀ vs H Q E,sp vs H Q E->vs.length=ps.length)
    (hbody:∀ (cdv:Value) (A:Around) (outer:List Env) (s:Shared) (H:Hp) (vs:List V) (Q:VK) (E:XK),Room k (A.deeper (envOfC qual (AH st) s.heap.objs.size f cdv))->sp vs H Q E ->
      ∃ t,DM (LR Qw P w K mg base N qual (AH st) f cdv A outer s H E).nox (Ab st) t/\t { nx:=fun _ H'=>Q .non H',rt:=Q } (start N vs) H):FnOk P w K mg base Qw (k+1) f fd ps sp:=by
  obtain ⟨oc,od,kV,doc,pm,an,cdv,ct,osl,rfl,lk,hcd⟩:=F.ex;refine fN lk hcd S len fun A outer s H vs Q E hr hsp=>?_
  obtain ⟨t,h,q⟩:=hbody cdv A outer s H vs Q E hr hsp;exact ⟨t,h.nox,q⟩
theorem Fun.binds {x qual:Str} {st:Stmt} {f:Addr} {fd:FuncData} {ps:List Str} (F:Fun K x qual st f fd)
    (h:∀ (kV doc pm:Value) (an:Option Addr) (cdv ct:Value) (us:List Value),us.length=ps.length->bindArgs (W.fnOf x qual (As st) (Ab st) (AH st) .none kV doc pm an cdv ct) ⟨us,[]⟩=pure (ps.zip us)):Binds K fd ps []:=by
  obtain ⟨oc,od,kV,doc,pm,an,cdv,ct,osl,rfl,lk,hcd⟩:=F.ex;exact .all (h kV doc pm an cdv ct)
theorem bA {x qual:Str} {st:Stmt} {f:Addr} {oc:Value} {od an:Option Addr} {osl:Array (Option Value)} {kV doc pm cdv ct:Value} (l:K.lookup f=some ⟨oc,od,.func (W.fnOf x qual (As st) (Ab st) (AH st) .none kV doc pm an cdv ct),osl⟩)
    (c:W.codeIn K cdv qual=true) (k:W.keepIn K (.ref f)=true):Fun K x qual st f (W.fnOf x qual (As st) (Ab st) (AH st) .none kV doc pm an cdv ct):=⟨⟨oc,od,kV,doc,pm,an,cdv,ct,osl,rfl,l,c⟩,k⟩
end
section
end
def NV (H H':Hp):Prop:=∀ b o,H b=some o->H' b=some o
noncomputable def AM (sc:Scope) (x:Str):Bool:=match sc.names.lookup x with | some .cell=>true | _=>false
def Cx.inner (X:Cx) (scope:Scope) (cl:List (Str×Addr)) (C:Addr) (s:Shared) (H:Hp) (fp:List Addr):Cx:=
 { X with s₀:=s,H₀:=H,env:=compEnvC scope cl C X.env,outer:=X.stack,ex:=fp,fn:=AM scope,xe:=fun _ _=>False }
theorem Af {scope:Scope} {env:Env} {x:Str}:∀ {names:List (Str×NameKind)}, 
    ((names.map fun (n,k)=>if (k == NameKind.free && env.scope.kind == .function && env.kindOf n == some .cell) then (n,NameKind.cell) else (n,k)).lookup x=some .cell \/
     (names.map fun (n,k)=>if (k == NameKind.free && env.scope.kind == .function && env.kindOf n == some .cell) then (n,NameKind.cell) else (n,k)).lookup x=some .free) ->
    names.lookup x=some .cell\/names.lookup x=some .free
  | [],h=>by simp at h
  | (n,k)::r,h=>by
    have ih:=@Af scope env x r;cases hx:x == n with
    | true =>
      simp only [jz,ki] at h ⊢
      by_cases hc:(k == NameKind.free && env.scope.kind == .function && env.kindOf n == some .cell)=true
      · have hk:k=.free:=by
          simp only [jh,beq_iff_eq] at hc;exact hc.1.1
        right;simp [hx,hk]
      · rw [if_neg hc] at h;simp only [ki,hx] at h ⊢;exact h
    | false =>
      simp only [jz,ki] at h ⊢
      by_cases hc:(k == NameKind.free && env.scope.kind == .function && env.kindOf n == some .cell)=true
      · rw [if_pos hc] at h;simp only [ki,hx] at h ⊢;exact ih h
      · rw [if_neg hc] at h;simp only [ki,hx] at h ⊢;exact ih h
theorem CZ {env:Env} {x:Str}:∀ {names:List (Str×NameKind)}, 
    (names.map fun (n,k)=>if (k == NameKind.free && env.scope.kind == .function && env.kindOf n == some .cell) then (n,NameKind.cell) else (n,k)).lookup x=some .local ->
    names.lookup x=some .local
  | [],h=>by simp at h
  | (n,k)::r,h=>by
    have ih:=@CZ env x r;cases hx:x == n with
    | true =>
      simp only [jz,ki] at h ⊢
      by_cases hc:(k == NameKind.free && env.scope.kind == .function && env.kindOf n == some .cell)=true
      · rw [if_pos hc] at h;simp only [ki,hx] at h;cases h
      · rw [if_neg hc] at h;simp only [ki,hx] at h ⊢;exact h
    | false =>
      simp only [jz,ki] at h ⊢
      by_cases hc:(k == NameKind.free && env.scope.kind == .function && env.kindOf n == some .cell)=true
      · rw [if_pos hc] at h;simp only [ki,hx] at h ⊢;exact ih h
      · rw [if_neg hc] at h;simp only [ki,hx] at h ⊢;exact ih h
theorem HN {scope:Scope} {env:Env} (hhas:∀ x,scope.names.lookup x=some .free->∃ c,env.cells.lookup x=some c) (hnd:∀ x k,(x,k)∈scope.names->k=.free->scope.names.lookup x=some .free) :
    ∃ cl,closureFor scope env=pure cl/\(∀ x c,cl.lookup x=some c->env.cells.lookup x=some c)/\∀ x,scope.names.lookup x=some .free->∃ c,cl.lookup x=some c:=by
  have go:∀ (names:List (Str×NameKind)) (cs:List (Str×Addr)),(∀ x k,(x,k)∈names->k=.free->∃ c,env.cells.lookup x=some c)->(∀ x c,cs.lookup x=some c->env.cells.lookup x=some c) ->
      ∃ cl,(forIn names cs (fun (x:Str×NameKind) (r:List (Str×Addr))=>(if (x.2 == NameKind.free)=true then (cellOf env x.1 >>= fun c=>(pure (ForInStep.yield ((x.1,c)::r)):Sem _)) else pure (ForInStep.yield r))))=(pure cl:Sem _) /\
        (∀ x c,cl.lookup x=some c->env.cells.lookup x=some c)/\(∀ x,(cs.lookup x).isSome=true->(cl.lookup x).isSome=true)/\∀ x,(x,NameKind.free)∈names->(cl.lookup x).isSome=true:=by
    intro names
    induction names with
    | nil=>intro cs _ h2;exact ⟨cs,by simp,h2,fun _ z=>z,fun _ z=>by simp at z⟩
    | cons p r ih =>
      intro cs h1 h2;obtain ⟨n,k⟩:=p
      by_cases hk:k=.free
      · subst hk;obtain ⟨c,hc⟩:=h1 n _ kA rfl;have hcell:cellOf env n=pure c:=by unfold cellOf;rw [hc]
        obtain ⟨cl,e,a,b,d⟩:=ih ((n,c)::cs) (fun x k hx hk=>h1 x k (kB _ hx) hk) (fun x c' hx=>by
          rw [ki] at hx;cases hxn:x == n with
          | true => rw [hxn] at hx; simp at hx; subst hx; have : x = n := by simpa using hxn
                    rw [this];exact hc
          | false=>rw [hxn] at hx;exact h2 x c' hx)
        refine ⟨cl,?_,a,fun x hx=>b x ?_,fun x hx=>?_⟩
        · rw [List.forIn_cons];simp only [hcell];simpa using e
        · rw [ki];cases hxn:x == n with
          | true=>rfl
          | false=>exact hx
        · rcases kZ.mp hx with z | z
          · injection z with z1 _
            subst z1;exact b x (by rw [ki];simp)
          · exact d x z
      · have hb:(k == NameKind.free)=false:=by simpa using hk
        obtain ⟨cl,e,a,b,d⟩:=ih cs (fun x k hx hk=>h1 x k (kB _ hx) hk) h2;refine ⟨cl,?_,a,b,fun x hx=>?_⟩
        · rw [List.forIn_cons];simp only [hb];simpa using e
        · rcases kZ.mp hx with z | z
          · injection z with _ z2
            exact absurd z2.symm hk
          · exact d x z
  obtain ⟨cl,e,a,_,d⟩:=go scope.names [] (fun x k hx hk=>hhas x (hnd x k hx hk)) (fun x c h=>by simp at h);refine ⟨cl,?_,a,fun x hx=>lX.mp (d x (kc hx))⟩;unfold closureFor;simpa using e
theorem Aj:∀ (names:List (Str×NameKind)) (n:Nat) (acc:List (Str×Addr)),cellsFrom n names acc=cellsFrom n names []++acc
 | [],n,acc=>by simp [cellsFrom]
 | (x,k)::r,n,acc=>by
  unfold cellsFrom;split
  ·rw [Aj r (n+1) ((x,n)::acc),Aj r (n+1) [(x,n)],kj];rfl
  ·exact Aj r n acc
theorem Cd {x:Str} {c:Addr}:∀ (names:List (Str×NameKind)) (n:Nat),(x,c)∈cellsFrom n names []->(x,NameKind.cell)∈names
 | [],n,h=>by simp [cellsFrom] at h
 | (y,k)::r,n,h=>by
  unfold cellsFrom at h;split at h
  ·rename_i hk;have hk:k=.cell:=by simpa using hk
   rw [Aj] at h;rcases kU.mp h with h | h
   ·exact kB _ (Cd r _ h)
   ·rw [kY] at h;cases h;rw [hk];exact kA
  ·exact kB _ (Cd r _ h)
theorem Ce {x:Str}:∀ (names:List (Str×NameKind)) (n:Nat),(x,NameKind.cell)∈names->∃ c,(cellsFrom n names []).lookup x=some c
 | [],n,h=>by cases h
 | (y,k)::r,n,h=>by
  unfold cellsFrom
  by_cases hr:(x,NameKind.cell)∈r
  ·split
   ·rw [Aj];obtain ⟨c,e⟩:=Ce r (n+1) hr;exact ⟨c,by rw [lM,e];rfl⟩
   ·exact Ce r n hr
  ·rcases kZ.mp h with e | e
   ·cases e;simp only [beq_self_eq_true,if_true];rw [Aj];cases q:(cellsFrom (n+1) r []).lookup x with
    | some c=>exact ⟨c,by rw [lM,q];rfl⟩
    | none=>exact ⟨n,by rw [lM,q];simp⟩
   ·exact absurd e hr
theorem Bx {M:Model} {A:Around} {E:Value->Shared->Prop} {s:Shared} {scope:Scope} {globals:Addr} {closure:List (Str×Addr)} {qual:Str} {outer:Env} {Q:Env->Shared->Prop}
    (hQ:Q { scope:=scope,locals:=s.heap.objs.size,globals:=globals,cells:=cellsFrom (s.heap.objs.size+1) scope.names closure,qual:=qual,func:=none,code:=outer.code,frame:=outer.frame,builtins:=outer.builtins } { s with heap:=pushCells (s.heap.push { cls:=.type "dict", data:=.dict #[] }) scope.names }) :
    wpAny M A (newFunctionEnv scope globals closure [] qual none .none (some outer)) Q E s:=by
  simp only [newFunctionEnv,Option.isSome_some,if_true];refine wpAny_bind (wpAny_alloc ?_);refine wpAny_bind (wpAny_layCells _ (fun name kind cells=>by cases hkc:kind == NameKind.cell<;>simp [hkc]) _ _ _ _ ?_)
  rw [show ({ s with heap:=s.heap.push { cls:=.type "dict", data:=.dict #[] } }:Shared).heap.objs.size=s.heap.objs.size+1 from lU ..]
  rw [List.forIn_nil];exact wpAny_bind (wpAny_pure (wpAny_pure hQ))
noncomputable def innerOk (N:List Str) (sc scope:Scope) (js:List Nat):Bool:=
 (match scope.kind with | .function=>true | _=>false) &&
 scope.names.all (fun p=>(match p.2 with
  | .cell=>(match scope.names.lookup p.1 with | some .cell=>true | _=>false)
  | .local=>(match scope.names.lookup p.1 with | some .local=>true | _=>false)
  | .free=>(match scope.names.lookup p.1 with | some .free=>true | _=>false) && (match sc.names.lookup p.1 with | some .cell=>true | some .free=>true | _=>false)
  | _=>true)) &&
 (N.zipIdx.all fun p=>(match scope.names.lookup p.1 with | some .local=>js.contains p.2 | some .cell=>js.contains p.2 | _=>true))
structure InnerIn (N:List Str) (sc scope:Scope) (js:List Nat):Prop where
 kind:scope.kind=.function
 uniqC:∀ x k,(x,k)∈scope.names->k=.cell->scope.names.lookup x=some .cell
 uniqL:∀ y∈scope.names,y.2=.local->scope.names.lookup y.1=some .local
 uniqF:∀ x k,(x,k)∈scope.names->k=.free->scope.names.lookup x=some .free
 fr:∀ x,scope.names.lookup x=some .free->sc.names.lookup x=some .cell\/sc.names.lookup x=some .free
 jsl:∀ (i:Nat) x,N[i]?=some x->scope.names.lookup x=some .local\/scope.names.lookup x=some .cell->i∈js
theorem HJ {N:List Str} {sc scope:Scope} {js:List Nat} (h:innerOk N sc scope js=true):InnerIn N sc scope js:=by
  unfold innerOk at h;rw [jh,jh] at h;obtain ⟨⟨h1,h2⟩,h3⟩:=h;rw [ka] at h2 h3;refine ⟨?_,fun x k hy e=>?_,fun y hy e=>?_,fun x k hy e=>?_,fun x e=>?_,fun i x e1 e2=>?_⟩
  · cases q:scope.kind<;>rw [q] at h1<;>first | rfl | cases h1
  · have:=h2 _ hy;rw [e] at this;dsimp only at this;split at this
    · assumption
    · cases this
  · have:=h2 y hy;rw [e] at this;dsimp only at this;split at this
    · assumption
    · cases this
  · have:=h2 _ hy;rw [e] at this;dsimp only at this;rw [jh] at this;have:=this.1;split at this
    · assumption
    · cases this
  · have:=h2 _ (kc e);dsimp only at this;rw [jh] at this;have:=this.2;split at this
    · left;assumption
    · right;assumption
    · cases this
  · have hm:(x,i)∈N.zipIdx:=by
      rw [List.mem_zipIdx_iff_getElem?];exact e1
    have:=h3 _ hm;dsimp only at this;rcases e2 with e2 | e2
    · rw [e2] at this;dsimp only at this;simpa using this
    · rw [e2] at this;dsimp only at this;simpa using this
def blank (js:List Nat) (σ:St):St:=js.foldl (fun σ j=>σ.set j none) σ
theorem blank_length (js:List Nat):∀ σ:St,(blank js σ).length=σ.length:=by
 induction js with
 | nil=>intro σ;rfl
 | cons j r ih=>intro σ;unfold blank;rw [mr];have:=ih (σ.set j none);unfold blank at this;rw [this,kR]
theorem Fh (js:List Nat):∀ (σ:St) (i:Nat) (v:V),(blank js σ)[i]?=some (some v)->i∉js/\σ[i]?=some (some v):=by
 induction js with
 | nil=>intro σ i v h;exact ⟨by simp,h⟩
 | cons j r ih =>
  intro σ i v h;unfold blank at h;rw [mr] at h;obtain ⟨a,b⟩:=ih (σ.set j none) i v h
  by_cases e:i=j
  ·subst e
   by_cases hl:i < σ.length
   ·rw [kW hl] at b;cases b
   ·rw [lG (by rw [kR];omega)] at b;cases b
  ·rw [kQ (Ne.symm e)] at b;exact ⟨by simp [e,a],b⟩
def RB (js:List Nat) (g:TG):Prop:=∀ x σ H Q,g x σ H Q->g x σ H fun σ2 H2=>(σ2.length=σ.length/\∀ i,i∉js->σ2[i]?=σ[i]?)/\Q σ2 H2
theorem TC {j:Nat} {js:List Nat} (h:j∈js):RB js (DX j):=fun x σ H Q q=>⟨⟨kR ..,fun i hi=>kQ (fun (e:j=i)=>hi (e▸h))⟩,q⟩
def Qv (js:List Nat) (g:NU):Prop:=∀ x σ H Q,g x σ H Q->g x σ H fun σ2 H2=>(σ2.length=σ.length/\∀ i,i∉js->σ2[i]?=σ[i]?)/\Q σ2 H2
theorem TB {js:List Nat}:Qv js Wa:=fun x σ H Q ⟨e,q⟩=>⟨e,⟨rfl,fun _ _=>rfl⟩,q⟩
theorem QM {j:Nat} {js:List Nat} {u:NU} (h:j∈js) (hu:Qv js u):Qv js (LC (DX j) u):=by
 rintro x σ H Q ⟨v,r,e,q⟩;refine ⟨v,r,e,?_⟩;have:=hu r (σ.set j (some v)) H Q q;show u r (σ.set j (some v)) H _;have key:∀ (P P':St->Hp->Prop),(∀ a b,P a b->P' a b)->True:=fun _ _ _=>trivial
 have e2:(fun σ2 H2=>(σ2.length=(σ.set j (some v)).length/\∀ (i:Nat),i∉js->σ2[i]?=(σ.set j (some v))[i]?)/\Q σ2 H2)=(fun σ2 H2=>(σ2.length=σ.length/\∀ (i:Nat),i∉js->σ2[i]?=σ[i]?)/\Q σ2 H2):=by
  funext σ2 H2;have e3:(∀ (i:Nat),i∉js->σ2[i]?=(σ.set j (some v))[i]?)=(∀ (i:Nat),i∉js->σ2[i]?=σ[i]?):=by
   apply propext;constructor
   ·intro k i hi;rw [k i hi,kQ (fun (e:j=i)=>hi (e▸h))]
   ·intro k i hi;rw [k i hi,kQ (fun (e:j=i)=>hi (e▸h))]
  rw [e3,kR]
 rw [e2] at this;exact this
theorem WX {K:W.Frag} {n:Nat} {js:List Nat} {u:NU} (hu:Qv js u):RB js (WZ K n u):=by
 rintro x σ H Q ⟨a,xs,e,hq,hl,q⟩;exact ⟨a,xs,e,hq,hl,hu _ _ _ _ q⟩
section
variable {X:Cx} {pins:List (Addr×Obj)} {σ:St} {H:Hp} {s:Shared} {scope:Scope} {cl:List (Str×Addr)} {js:List Nat} {fp:List Addr} {C D:Addr}
theorem Inv.notStk (I:Inv X pins σ H s) {a:Addr} (h:s.heap.objs.size<=a):a∉ON X.stack:=fun hb=>by
 rcases kZ.mp (I.stkSub a hb) with e | e
 ·exact absurd (kO I.lt (e▸h)) (lC _)
 ·exact I.nofs h e
theorem Inv.cellLt (I:Inv X pins σ H s) {x:Str} {c:Addr} (e:X.env.cells.lookup x=some c):c < s.heap.objs.size:=by
 obtain ⟨v,q⟩:=I.cell x c e;exact q.lt
theorem Inv.pinLt (I:Inv X pins σ H s) {p:Addr×Obj} (hp:p∈X.pn++pins):p.1 < s.heap.objs.size:=kF (I.pin p hp).1
structure Celz (X:Cx) (scope:Scope) (cl:List (Str×Addr)) (s:Shared) (C:Addr):Prop where
 old:∀ x c,cl.lookup x=some c->AM scope x=false->X.env.cells.lookup x=some c
 own:∀ x c,cl.lookup x=some c->AM scope x=true->s.heap.objs.size<=c/\C < c
 inj:∀ x y c,cl.lookup x=some c->cl.lookup y=some c->AM scope x=true->AM scope y=true->x=y
 fr:∀ x,scope.names.lookup x=some .free->∃ c,cl.lookup x=some c
 has:∀ x,AM scope x=true->∃ c,cl.lookup x=some c
theorem Celz.ne (L:Celz X scope cl s C) {x:Str} {c b:Addr} (e:cl.lookup x=some c) (hb:b < s.heap.objs.size) (h:∀ x c,X.env.cells.lookup x=some c->c≠b):c≠b:=by
 cases q:AM scope x with
 | false=>exact h x c (L.old x c e q)
 | true=>exact mE (kO hb (L.own x c e q).1)
theorem Ws {cl0:List (Str×Addr)} (hin:InnerIn X.N X.env.scope scope js) (hcl:∀ x c,cl0.lookup x=some c->X.env.cells.lookup x=some c) (hfr:∀ x,scope.names.lookup x=some .free->∃ c,cl0.lookup x=some c)
    {h:Heap} (hC:s.heap.objs.size<=C) (hs:h.objs.size=C+1):Celz X scope (cellsFrom (C+1) scope.names cl0) s C/\∀ x c,(cellsFrom (C+1) scope.names cl0).lookup x=some c->AM scope x=true->∃ v,(pushCells h scope.names).IsCell c v:=by
  have ok:=cellsFrom_ok scope.names h (C+1) [] ⟨fun _ _ hm=>(nomatch hm),List.Pairwise.nil⟩ (by rw [hs];exact ju _);rw [hs] at ok;rw [Aj];generalize hw:cellsFrom (C+1) scope.names []=own at ok;have mem:∀ x c,own.lookup x=some c->AM scope x=true:=fun x c e=>by
    have:=hin.uniqC x _ (Cd scope.names (C+1) (by rw [hw];exact kc e)) rfl;unfold AM;rw [this]
  have has:∀ x,AM scope x=true->∃ c,own.lookup x=some c:=fun x e=>by
    unfold AM at e;split at e
    · rename_i q;obtain ⟨c,z⟩:=Ce scope.names (C+1) (kc q);rw [hw] at z;exact ⟨c,z⟩
    · cases e
  have yes:∀ x c,(own++cl0).lookup x=some c->AM scope x=true->own.lookup x=some c:=fun x c e q=>by
    obtain ⟨c',z⟩:=has x q;rw [lM,z] at e;rw [z];exact e
  have no:∀ x,AM scope x=false->(own++cl0).lookup x=cl0.lookup x:=fun x q=>by
    rw [lM];cases z:own.lookup x with
    | none=>rfl
    | some c=>rw [mem x c z] at q;cases q
  refine ⟨⟨fun x c e q=>hcl x c (by rw [<- no x q];exact e),fun x c e q=>?_,fun x y c e1 e2 q1 q2=>?_,fun x e=>?_,fun x q=>?_⟩,fun x c e q=>?_⟩
  · have:=(ok.empty x c (kc (yes x c e q))).2;exact ⟨kM hC (Nat.le_of_succ_le this),this⟩
  · exact PySem.name_of_addr ok.apart (kc (yes x c e1 q1)) (kc (yes y c e2 q2))
  · obtain ⟨c,z⟩:=hfr x e;exact ⟨c,by rw [no x (by unfold AM;rw [e])];exact z⟩
  · obtain ⟨c,z⟩:=has x q;exact ⟨c,by rw [lM,z];rfl⟩
  · exact ⟨none,(ok.empty x c (kc (yes x c e q))).1⟩
theorem Inv.innerOk (I:Inv X pins σ H s) (hin:InnerIn X.N X.env.scope scope js) (hf:∀ b∈fp,FpOk X pins H b) (hfe:∀ b∈fp,b < s.heap.objs.size) (hC:s.heap.objs.size<=C)
    (L:Celz X scope cl s C):(X.inner scope cl C s H fp).Ok where
  mod:=I.ok.mod
  kind:=hin.kind
  glob:=I.ok.glob
  blt:=I.ok.blt
  above:=hC
  inj:=fun x y c a b=>by
    cases hx:AM scope x<;>cases hy:AM scope y
    · exact I.ok.inj x y c (L.old x c a hx) (L.old y c b hy)
    · exact absurd (I.cellLt (L.old x c a hx)) (Nat.not_lt.mpr (L.own y c b hy).1)
    · exact absurd (I.cellLt (L.old y c b hy)) (Nat.not_lt.mpr (L.own x c a hx).1)
    · exact L.inj x y c a b hx hy
  has:=fun x h=>by
    rcases Af (scope:=scope) (env:=X.env) (names:=scope.names) h with q | q
    · exact L.has x (by unfold AM;rw [q])
    · exact L.fr x q
  cab:=fun x c h e=>(L.own x c e h).1
  hd:=I.ok.hd
  frames:=I.ok.frames
  stk:=.inl rfl
  exf:=fun b hb=>⟨kP (kO (hfe b hb) hC),fun x c e=>L.ne e (hfe b hb) (hf b hb).2.2.2.2.1⟩
  bs:=I.bs
  bsz:=kM I.ok.bsz I.sz
  noex:=fun b o e hb=>by
    rcases (hf b hb).2.2.2.1 with z | z
    · exact I.ok.noex b o e z
    · exact absurd (kO (kF e) (kM I.ok.bsz z)) (lC _)
  exfs:=fun b hb z=>by
    rcases kZ.mp (I.stkSub b z) with e | e
    · exact (hf b hb).2.1 e
    · exact (hf b hb).2.2.1 e
  funs:=I.stack
  frf:=I.stkFree
theorem Inv.enter {h':Heap} {tk:Nat} {o:Obj} (I:Inv X pins σ H s) (hin:InnerIn X.N X.env.scope scope js) (hf:∀ b∈fp,FpOk X pins H b) (hfe:∀ b∈fp,b < s.heap.objs.size) (hC:s.heap.objs.size<=C) (hD:s.heap.objs.size<=D) (hDC:D≠C)
    (L:Celz X scope cl s C) (hown:∀ x c,cl.lookup x=some c->AM scope x=true->∃ v,h'.IsCell c v)
    (k:∀ b u,s.heap.get? b=some u->h'.get? b=some u) {m:Str->Option Value} (hns:h'.Ns C m) (ho:h'.get? D=some o) (hoc:∀ v,o.data≠.cell v) :
    Inv (X.inner scope cl C s H fp) (pins++[(D,o)]) (blank js σ) H { s with heap:=h',toks:=tk } where
  ok:=I.innerOk hin hf hfe hC L
  os:=rfl
  bare:=I.bare
  base:=Un.kept k
  loc:=by
    refine ⟨m,hns,fun i x v e1 e2 e3=>?_⟩;obtain ⟨hj,e2⟩:=Fh js σ i v e2;have free:scope.names.lookup x=some .free:=by
      rcases e3 with q | q | q
      · exact absurd (hin.jsl i x e1 (.inl (CZ (env:=X.env) (names:=scope.names) q))) hj
      · rcases Af (scope:=scope) (env:=X.env) (names:=scope.names) (.inl q) with z | z
        · exact absurd (hin.jsl i x e1 (.inr z)) hj
        · exact z
      · rcases Af (scope:=scope) (env:=X.env) (names:=scope.names) (.inr q) with z | z
        · exact absurd (hin.jsl i x e1 (.inr z)) hj
        · exact z
    have kx:=hin.fr x free;obtain ⟨m0,hn0,hl0⟩:=I.loc;obtain ⟨u,r,l⟩:=hl0 i x v e1 e2 (kx.elim (fun z=>.inr (.inl z)) fun z=>.inr (.inr z));refine ⟨u,r,?_⟩;rcases l with ⟨z,_⟩ | ⟨_,c,hc,hcell⟩
    · have z':X.env.scope.names.lookup x=some .local:=z;rcases kx with y | y
      · rw [y] at z';cases z'
      · rw [y] at z';cases z'
    · obtain ⟨c',hc'⟩:=L.fr x free;have:c'=c:=by
        have q:=L.old x c' hc' (by unfold AM;rw [free]);rw [hc] at q;exact (Option.some.inj q).symm
      subst this;obtain ⟨oc,q1,q2⟩:=hcell;refine .inr ⟨?_,c',hc',oc,k _ _ q1,q2⟩;rcases e3 with q | q | q
      · have:=CZ (env:=X.env) (names:=scope.names) q;rw [free] at this;cases this
      · exact .inl q
      · exact .inr q
  cell:=fun x c e=>by
    cases q:AM scope x with
    | true=>exact hown x c e q
    | false =>
      obtain ⟨v,oc,q1,q2⟩:=I.cell x c (L.old x c e q);exact ⟨v,oc,k _ _ q1,q2⟩
  free:=I.hok.fresh hC
  freeC:=fun x c e=>by
    cases q:AM scope x with
    | true=>exact I.hok.fresh (L.own x c e q).1
    | false=>exact I.freeC x c (L.old x c e q)
  pin:=fun p hp=>by
    have hp':p∈X.pn++(pins++[(D,o)]):=hp;rw [<- kj] at hp';rcases kU.mp hp' with z | z
    · obtain ⟨a1,a2,a3,a4,a5⟩:=I.pin p z;refine ⟨k _ _ a1,a2,kP (kO (kF a1) hC),fun q=>?_,a5⟩;rcases kZ.mp (I.stkSub p.1 q) with e | e
      · exact a3 e
      · exact a4 e
    · have e:p=(D,o):=by simpa using z
      subst e;exact ⟨ho,I.hok.fresh hD,hDC,I.notStk hD,hoc⟩
  hok:=I.hok.kept k
  len:=(blank_length js σ).trans I.len
theorem Inv.leave {Y:Cx} {H':Hp} {s':Shared} {τ:St} {pl:List (Addr×Obj)} {ys:List V} {its:List Value} {n:Nat} (I:Inv X pins σ H s) (hf:∀ b∈fp,FpOk X pins H b) (hY:Y=X.inner scope cl C s H fp) (J:Inv Y pl τ H' s') (hD:s.heap.objs.size<=D)
    (hHD:H' D=none) (hz:ys.length<=sizeLine) (hv:AD ys its) (ho:s'.heap.get? D=some { cls:=.type "list", data:=.seq its.toArray n }) :
    Inv X pins σ (upd H' D (.lst ys)) s':=by
  subst hY;have un:Un (ON X.stack) fp H H' s.heap s'.heap:=J.base;have ne:∀ {b:Addr} {o:Obj},s.heap.get? b=some o->b≠D:=fun e=>kP (kO (kF e) hD)
  have nH:∀ {b:Addr} {o:HO},H' b=some o->b≠D:=fun e z=>by rw [z,hHD] at e;cases e
  have un':Un (ON X.stack) fp H (upd H' D (.lst ys)) s.heap s'.heap:=
    ⟨un.keep,un.slot,fun b o e n' hx=>by rw [AO (ne e)];exact un.free b o e n' hx,un.there,fun b xs e=>by have:=un.tups b xs e;rw [AO (nH this)];exact this,
      fun b o u e=>by have:=un.frzs b o u e;rw [AO (nH this)];exact this,fun b ps e=>by obtain ⟨more,q⟩:=un.tbls b ps e;exact ⟨more,by rw [AO (nH q)];exact q⟩⟩
  have hok:ER X.prog X.w (upd H' D (.lst ys)) s'.heap:=fun b u e=>by
    by_cases hb:b=D
    · subst hb;rw [BS] at e;cases e;exact ⟨hz,its,n,hv,ho⟩
    · rw [AO hb] at e;exact (J.hok b u e).stay (fun _ _ _ q=>q) (fun c q=>by rw [AO (nH q)];exact q) fun c xs q=>by rw [AO (nH q)];exact q
  exact I.call' J.os un' hok J.bare fun b hb=>by
    obtain ⟨_,f1,_,f3,f4,f5⟩:=hf b hb;exact ⟨f3,f1,f4,f5⟩
end
section
end
section
end
section
variable {X:Cx}
def dg:V->Option Int->Option Int->Hp->VK->Prop:=fun x lo hi H Q=>∃ z,x=.str z/\z.length<=sizeLine/\Q (.str (Txt.slice z lo hi)) H
theorem ZK:Qz X dg:=by
 intro pins s σ H x v vl vu lo hi sl Q I rx hs pl pu h;obtain ⟨z,rfl,hz,q⟩:=h;obtain ⟨t,rfl⟩:=rx;have fin:∀ t' k,EP X pins σ Q (.str (Txt.slice z lo hi) t') { s with toks:=k }:=fun t' k=>⟨.str _,H,I.tok k,⟨_,rfl⟩,q⟩
 refine ⟨"str", _,F.slot_str_getitem.lookup,typeIs_str _ _ _,?_⟩
 obtain ⟨o,e1,e2,e3⟩:=hs;cases pl with
 | none =>
  cases pu with
  | none=>exact wpAny_getItem_str_slice (l:=none) (u:=none) (st:=none) ⟨o,e1,e2,e3⟩ rfl (post_val_or_str ⟨kM (Txt.slice_le z _ _) hz,fin⟩)
  | int j uj=>exact wpAny_getItem_str_slice (l:=none) (u:=some (j,uj)) (st:=none) ⟨o,e1,e2,e3⟩ rfl (post_val_or_str ⟨kM (Txt.slice_le z _ _) hz,fin⟩)
 | int i ui =>
  cases pu with
  | none=>exact wpAny_getItem_str_slice (l:=some (i,ui)) (u:=none) (st:=none) ⟨o,e1,e2,e3⟩ rfl (post_val_or_str ⟨kM (Txt.slice_le z _ _) hz,fin⟩)
  | int j uj=>exact wpAny_getItem_str_slice (l:=some (i,ui)) (u:=some (j,uj)) (st:=none) ⟨o,e1,e2,e3⟩ rfl (post_val_or_str ⟨kM (Txt.slice_le z _ _) hz,fin⟩)
theorem MA {ys:List Str}:∀ {us:List Value},AD (ys.map V.str) us->StrsAre us ys:=by
 induction ys with
 | nil=>intro us r;rw [lZ] at r;cases r;exact .nil
 | cons n ns ih =>
  intro us r;rw [jz] at r;cases r with
  | cons r1 r2 =>
   obtain ⟨t,e⟩:=r1;subst e;exact .cons n t (ih r2)
def SH (K:W.Frag):V->List V->Hp->VK->Prop:=fun x vs H Q=>∃ sep l ys,x=.str sep/\vs=[.ref l]/\CB K H l (ys.map V.str)/\(ys.map (·.length)).sum+ys.length * sep.length<=16777216/\Q (.str (Txt.join sep ys)) H
theorem WM:cZ X "str.join" (SH X.K):=by
 intro pins s σ H x vs v us Q I rx rv h;obtain ⟨sep,l,ys,rfl,rfl,hl,hz,q⟩:=h;obtain ⟨t,rfl⟩:=rx;obtain ⟨u,rfl,ru⟩:=rv.one;cases ru;obtain ⟨its,r,p,_⟩:=I.list hl;exact join_list p.isList (by simpa using MA r) hz fun t' k=>⟨.str _,H,I.tok k,⟨_,rfl⟩,q⟩
end
structure Fx (P:Program) (w:World) (K:W.Frag) (mg:Str->Option Value) (base:Heap) (k:Nat) (x:Str) (ps:List Str) (sp:Sp):Prop where
 ex:∃ (f:Addr) (fd:FuncData),FnOk P w K mg base Qw k f fd ps sp/\mg x=some (.ref f)/\W.keepIn K (.ref f)=true/\Binds K fd ps []
section
variable {X:Cx} {k j:Nat} {x:Str} {ps:List Str} {sp:Sp} {p pos:Pos} {e:Expr} {es:List Expr} {t:TA}
abbrev cz (sp:Sp) (t:TA):TE:=fun σ H Q=>t σ H fun vs H1=>sp vs H1 Q E0
theorem Kj (F:Fx X.prog X.w X.K X.mg X.base k x ps sp) (hr:Room j X.A) (hkj:k<=j) (hg:Gl X x) (ha:PA X (e::es) t) (hdb:(x == ("__debug__" : Str))=false:=by decide)
    (he:starEach (e::es) X.env=(false,eval e X.env)::starEach es X.env:=by rfl) (hpl:(backTo pos (starEach es X.env)).any (·.1)=false:=by rfl):PE X (.Call (.Name x p) (e::es) [] pos) (cz sp t):=by
  obtain ⟨f,fd,G,hm,hk,hb⟩:=F.ex;have q:=Vy (p:=p) (pos:=pos) G (hr.mono hkj) hg hm hk hb .nil YD ha hdb he hpl;intro pins s σ H Q I h;refine q pins s σ H Q I ?_;show t σ H fun vs H1=>sp (vs++[]) H1 Q E0
  have e2:(fun (vs:List V) (H1:Hp)=>sp (vs++[]) H1 Q E0)=(fun vs H1=>sp vs H1 Q E0):=by
    funext vs H1;rw [lB]
  rw [e2];exact h
theorem Sb (F:Fx X.prog X.w X.K X.mg X.base k x ps sp) (hr:Room j X.A) (hkj:k<=j) (hg:Gl X x) (hdb:(x == ("__debug__" : Str))=false:=by decide):PE X (.Call (.Name x p) [] [] pos) (cz sp VF):=by
 obtain ⟨f,fd,G,hm,hk,hb⟩:=F.ex;have q:=Se (p:=p) (pos:=pos) G (hr.mono hkj) hg hm hk hb .nil YD hdb;intro pins s σ H Q I h;exact q pins s σ H Q I h
end
section
variable {X:Cx}
def eG:R2:=fun x y H Q=>∃ i j,x=.str i/\y=.str j/\i.length+j.length<=sizeLine/\Q (.str (i++j)) H
def Ka (K:W.Frag):R2:=fun x y H Q=>(PQ fun i j=>.int (i+j)) x y H Q\/eG x y H Q\/eE x y H Q\/YA K x y H Q
theorem WG:CQ X (binaryOp .Add) (Ka X.K):=aQ.or (MV.or (aP.or WC))
theorem Uk {K:W.Frag} {i j:Int} {H:Hp} {Q:VK} (q:Q (.int (i+j)) H):Ka K (.int i) (.int j) H Q:=.inl ⟨i,j,rfl,rfl,q⟩
theorem Ui {K:W.Frag} {i j:Str} {H:Hp} {Q:VK} (h:i.length+j.length<=1000000) (q:Q (.str (i++j)) H):Ka K (.str i) (.str j) H Q:=.inr (.inl ⟨i,j,rfl,rfl,kM h (by decide),q⟩)
theorem Uj {K:W.Frag} {a b:Addr} {xs ys:List V} {H:Hp} {Q:VK} (ha:H a=some (.lst xs)) (hb:H b=some (.lst ys)) (h:xs.length+ys.length<=1000000) (q:∀ p,H p=none->Q (.ref p) (upd H p (.lst (xs++ys)))):Ka K (.ref a) (.ref b) H Q:=
 .inr (.inr (.inl ⟨a,b,xs,ys,rfl,rfl,ha,hb,kM h (by decide),q⟩))
theorem Va {K:W.Frag} {p:Addr} {xs:List V} {i:Int} {v:V} {H:Hp} {Q:VK} (h:H p=some (.lst xs)) (e:ED xs i=some v) (q:Q v H):Za K (.ref p) (.int i) H Q:=.inl ⟨p,xs,i,v,rfl,rfl,.inl (.inl h),e,q⟩
theorem ZY {K:W.Frag} {p:Addr} {xs:List V} {i:Int} {v:V} {H:Hp} {Q:VK} (h:CB K H p xs) (e:ED xs i=some v) (q:Q v H):Za K (.ref p) (.int i) H Q:=.inl ⟨p,xs,i,v,rfl,rfl,h,e,q⟩
theorem VZ {K:W.Frag} {z:Str} {i:Int} {c:Nat} {H:Hp} {Q:VK} (h:z.length<=1000000) (e:ED z.cps.toList i=some c) (q:Q (.str ⟨#[c]⟩) H):Za K (.str z) (.int i) H Q:=.inr (.inr ⟨z,i,c,rfl,rfl,kM h (by decide),e,q⟩)
theorem au:Qu X (Za X.K):=aq
def SF (K:W.Frag):V->Option Int->Option Int->Hp->VK->Prop:=fun x lo hi H Q=>dg x lo hi H Q\/dh K x lo hi H Q\/df K x lo hi H Q
theorem ZM:Qz X (SF X.K):=ZK.or (VS.or ZJ)
theorem VP {K:W.Frag} {z:Str} {lo hi:Option Int} {H:Hp} {Q:VK} (h:z.length<=1000000) (q:Q (.str (Txt.slice z lo hi)) H):SF K (.str z) lo hi H Q:=.inl ⟨z,rfl,kM h (by decide),q⟩
theorem Rp {K:W.Frag} {a:Addr} {xs:List V} {lo hi:Option Int} {H:Hp} {Q:VK} (h:CB K H a xs) (q:∀ p,H p=none->Q (.ref p) (upd H p (.lst (Ep xs lo hi)))):SF K (.ref a) lo hi H Q:=.inr (.inl ⟨a,xs,rfl,h,q⟩)
theorem VQ {K:W.Frag} {a:Addr} {xs:List V} {lo hi:Option Int} {H:Hp} {Q:VK} (h:H a=some (.lst xs)) (q:∀ p,H p=none->Q (.ref p) (upd H p (.lst (Ep xs lo hi)))):SF K (.ref a) lo hi H Q:=Rp (.inl (.inl h)) q
theorem VU:Jw X SG:=set_list
def PP (K:W.Frag):List V->Hp->VK->Prop:=fun xs H Q=>∃ x n,xs=[x]/\gL K x H n/\Q (.int n) H
theorem Qd:BC X (.builtin "len") (PP X.K):=UB
theorem QB {K:W.Frag} {z:Str} {H:Hp} {Q:VK} (h:z.length<=1000000) (q:Q (.int z.length) H):PP K [.str z] H Q:=⟨_,_,rfl,⟨kM h (by decide),rfl⟩,q⟩
theorem Sn {K:W.Frag} {p:Addr} {xs:List V} {H:Hp} {Q:VK} (h:CB K H p xs) (q:Q (.int xs.length) H):PP K [.ref p] H Q:=⟨_,_,rfl,.inl ⟨xs,h,rfl⟩,q⟩
theorem WU {K:W.Frag} {p:Addr} {xs:List V} {H:Hp} {Q:VK} (h:H p=some (.lst xs)) (q:Q (.int xs.length) H):PP K [.ref p] H Q:=Sn (.inl (.inl h)) q
end
theorem DT {H:Hp} {p:Addr} (h:H p=none) (o:HO):NV H (upd H p o):=fun b u q=>by rw [AO (Bi q h)];exact q
section
variable {X:Cx}
theorem hX (K:W.Frag) (h:X.K=K:=by rfl):Qu X (Za K):=by subst h;exact au
theorem Qb (K:W.Frag) (h:X.K=K:=by rfl):BC X (.builtin "len") (PP K):=by subst h;exact Qd
theorem Sj (K:W.Frag) (h:X.K=K:=by rfl):cZ X "str.join" (SH K):=by subst h;exact WM
def Nu (K:W.Frag):List V->Hp->VK->Prop:=fun xs H Q=>∃ p ys,xs=[.ref p]/\(CB K H p ys\/Cr K H p ys)/\∀ l,H l=none->Q (.ref l) (upd H l (.lst ys))
theorem NC (K:W.Frag) (h:X.K=K:=by rfl):BC X (.type "list") (Nu K):=by subst h;exact Jh
def KY (K:W.Frag):List V->Hp->VK->Prop:=fun xs H Q=>∃ p ys,xs=[.ref p]/\((CB K H p ys/\∀ l,H l=none->Q (.ref l) (upd H l (.tup ys)))\/(Cr K H p ys/\Q (.ref p) H))
theorem LW (K:W.Frag) (h:X.K=K:=by rfl):BC X (.type "tuple") (KY K):=by subst h;exact Hn
end
noncomputable def tx (l:List Nat):Str:=⟨l.toArray⟩
theorem GJ (l:List Nat):(tx l).cps.toList=l:=by simp [tx]
theorem CF (l:List Nat):(tx l).length=l.length:=by simp [tx,Str.length]
theorem Ls (a b:List Nat):tx a++tx b=tx (a++b):=by
 show (⟨(tx a).cps++(tx b).cps⟩:Str)=_;simp [tx]
theorem Yt {a b:List Nat} (h:tx a=tx b):a=b:=by
 have:=congrArg (fun z:Str=>z.cps.toList) h;simpa [tx] using this
def QV (l:List Nat) (lo hi:Option Int):List Nat:=(l.drop (HT.sIx l.length 0 lo)).take (HT.sIx l.length l.length hi - HT.sIx l.length 0 lo)
theorem SV (l:List Nat) (a k:Nat) (h:a+k<=l.length):((List.range k).map fun j=>a+j).filterMap (fun i=>l[i]?)=(l.drop a).take k:=by
  apply List.ext_getElem?;intro i
  by_cases hi:i < k
  · rw [my hi,List.getElem?_drop];have e:(List.map (fun j=>a+j) (List.range k)).filterMap (fun i=>l[i]?)=(List.range k).map fun j=>l[a+j]!:=by
      rw [ma];rw [show (fun i=>l[i]?)∘(fun j=>a+j)=fun j=>l[a+j]? from rfl];have:∀ (r:List Nat),(∀ j∈r,a+j < l.length)->r.filterMap (fun j=>l[a+j]?)=r.map fun j=>l[a+j]!:=by
        intro r
        induction r with
        | nil=>intro _;rfl
        | cons x r ih =>
          intro hx;have hxl:=hx x kA;rw [lK,jl hxl,jz,ih fun j hj=>hx j (kB _ hj)];simp [hxl]
      exact this _ fun j hj=>by have:=lT.mp hj;omega
    rw [e,kN,lJ hi];have hl:a+i < l.length:=by omega
    simp [hl]
  · have e1:(((List.range k).map fun j=>a+j).filterMap (fun i=>l[i]?)).length<=k:=kM (List.length_filterMap_le _ _) (by simp);rw [lG (by omega),lG (by rw [lL];omega)]
theorem cl (i:Int) (n:Nat):max 0 (min (if i < 0 then i+(n:Int) else i) (n:Int))=(((if i < 0 then (i+(n:Int)).toNat else min i.toNat n):Nat):Int):=by
 by_cases h:i < 0
 ·simp only [h,if_true];omega
 ·simp only [h,if_false];omega
theorem RN (l:List Nat) (lo hi:Option Int):Txt.slice (tx l) lo hi=tx (QV l lo hi):=by
 have hlen:(tx l).length=l.length:=CF l;have key:Builtin.Str.strSliceIndices lo hi 1 l.length=(List.range (HT.sIx l.length l.length hi - HT.sIx l.length 0 lo)).map fun j=>HT.sIx l.length 0 lo+j:=by
  have key0:Builtin.Str.strSliceIndices lo hi 1 l.length=sliceRange ((HT.sIx l.length 0 lo:Nat):Int) ((HT.sIx l.length l.length hi:Nat):Int) 1:=by
   unfold Builtin.Str.strSliceIndices;rcases lo with _ | i<;>rcases hi with _ | j<;>simp only [show (1:Int) > 0 by decide,if_true,HT.sIx,cl,Int.natCast_zero]<;>rfl
  rw [key0];unfold sliceRange;simp only [show (1:Int) > 0 by decide,if_true];generalize HT.sIx l.length 0 lo=a;generalize HT.sIx l.length l.length hi=b;have cnt:(if (a:Int) < (b:Int) then ((b:Int) - (a:Int)+1 - 1) / 1 else 0).toNat=b - a:=by
   split<;>omega
  rw [cnt];apply List.map_congr_left;intro j _;omega
 have hle:HT.sIx l.length l.length hi<=l.length:=HT.sIx_le _ _ (ju _) _;have hlo:HT.sIx l.length 0 lo<=l.length:=HT.sIx_le _ _ (kg _) _;unfold Txt.slice;rw [hlen,key];unfold QV;generalize HT.sIx l.length 0 lo=a at *;generalize HT.sIx l.length l.length hi=b at *;have e2:(List.map (fun j=>a+j) (List.range (b - a))).filterMap (fun i=>(tx l).cps[i]?)=(l.drop a).take (b - a):=by
  have e3:(fun i:Nat=>(tx l).cps[i]?)=fun i=>l[i]?:=by funext i;simp [tx]
  rw [e3]
  by_cases hab:a<=b
  ·exact SV l a (b - a) (by omega)
  ·have:b - a=0:=by omega
   rw [this];simp
 split
 ·rename_i hc;simp only [jv,lQ,jh,beq_iff_eq] at hc;have h0:a=0:=by omega
  have h1:b=l.length:=by omega
  subst h0 h1;simp
 ·rw [e2];rfl
def small (c:Nat):Prop:=97<=c/\c<=122
theorem eqV_str (a b:List Nat):eqV (.str (tx a)) (.str (tx b))=decide (a=b):=by
 unfold eqV
 by_cases h:a=b
 ·subst h;simp
 ·rw [decide_eq_false h];have:tx a≠tx b:=fun e=>h (Yt e)
  simpa using this
section
variable {X:Cx}
theorem AD.get':∀ {xs:List V} {us:List Value} {i:Nat} {u:Value},AD xs us->us[i]?=some u->∃ x,xs[i]?=some x/\RelV x u
 | _,_,_,_,.nil,e=>by simp at e
 | _,_,0,_,.cons r _,e=>by simp at e;subst e;exact ⟨_,rfl,r⟩
 | _,_,i+1,u,.cons _ t,e=>by
  obtain ⟨x,h1,h2⟩:=AD.get' (i:=i) (u:=u) t (by simpa using e);exact ⟨x,by simpa using h1,h2⟩
def eF (K:W.Frag):List V->Hp->VK->Prop:=fun xs H Q=>∃ (p:Addr) (bs:List Bool),xs=[.ref p]/\CB K H p (bs.map V.bl)/\Q (.bl (bs.all id)) H
theorem XW {bs:List Bool} {us:List Value} (r:AD (bs.map V.bl) us) {i:Nat} {v:Value} (e:us[i]?=some v):∃ b,bs[i]?=some b/\v=.bool b:=by
 obtain ⟨x,e1,e2⟩:=r.get' e;rw [kN] at e1;cases q:bs[i]? with
 | none=>rw [q] at e1;cases e1
 | some b =>
  rw [q] at e1;have:V.bl b=x:=Option.some.inj e1;subst this;exact ⟨b,rfl,e2⟩
theorem Gn:∀ bs:List Bool,((List.range bs.length).all fun i=>(bs[i]?).getD true)=bs.all id
 | []=>rfl
 | b::bs=>by
  rw [kG,mO,kr,List.all_map,kr];have ih:=Gn bs;rw [<- ih];rfl
theorem aR {h h':Heap} {o:Obj} (hk:∀ b x,b∉[h.objs.size]->(h.push o).get? b=some x->h'.get? b=some x):∀ b x,h.get? b=some x->h'.get? b=some x:=
 fun b x e=>hk b x (fun hm=>by rw [kY.mp hm] at e;exact lC _ (kF e)) (jm _ e)
theorem Qf (K:W.Frag) (hK:X.K=K:=by rfl) (hc:X.calm=true:=by rfl):BC X (.builtin "all") (eF K):=by
  subst hK;intro pins s σ H xs us Q I r h;obtain ⟨p,bs,rfl,hp,q⟩:=h;obtain ⟨u,rfl,rx⟩:=vals1 r;cases rx;obtain ⟨its,rv,pl,hz⟩:=I.list hp;have hl:=pl.isList;have hlt:p < s.heap.objs.size:=by obtain ⟨_,e,_⟩:=hl;exact kF e
  refine call_all_walk (wpAny_pyIter_list hl ?_);refine ⟨s.heap.objs.size,[s.heap.objs.size,p],[s.heap.objs.size],its.toArray.size,_,_,fun i=>(bs[i]?).getD true,rfl,Walks.list (A:=X.A.in1) (I.ok.hd hc) _ p (kP hlt) its.toArray,
    ⟨⟨_,kD _ rfl,rfl,rfl⟩,hl.push _⟩,fun i v s' Q' E' hP hQ=>?_,fun h' tk hk=>?_⟩
  · obtain ⟨b,e,rfl⟩:=XW rv (i:=i) (v:=v) (by simpa using hP);simp only [e,Option.getD_some] at hQ;exact wpAny_truthy_bool hQ
  · have e:((List.range its.toArray.size).all fun i=>(bs[i]?).getD true)=bs.all id:=by
      rw [jq,<- rv.length,jv];exact Gn bs
    rw [e];exact ⟨.bl _,H,I.kept (aR hk),rfl,q⟩
def eqVs:List V->List V->Bool
 | [],[]=>true
 | x::xs,y::ys=>eqV x y && eqVs xs ys
 | _,_=>false
theorem eqVs_ints:∀ (a b:List Int),eqVs (a.map V.int) (b.map V.int)=decide (a=b)
 | [],[]=>rfl
 | [],_::_=>by simp [eqVs]
 | _::_,[]=>by simp [eqVs]
 | x::a,y::b=>by
  rw [jz,jz,eqVs,eqVs_ints a b];show ((x == y) && decide (a=b))=decide (x::a=y::b)
  by_cases h:x=y
  ·subst h;simp
  ·simp [h]
def de (K:W.Frag):V->Option Int->Option Int->Hp->VK->Prop:=fun x lo hi H Q=>∃ a xs,x=.ref a/\Cr K H a xs/\(HT.sIx xs.length 0 lo=0/\HT.sIx xs.length xs.length hi=xs.length)/\Q (.ref a) H
theorem VR:Qz X (de X.K):=by
 intro pins s σ H x v vl vu lo hi sl Q I rx hs pl pu h;obtain ⟨a,xs,rfl,hx,hw,q⟩:=h;cases rx;obtain ⟨its,r,ht,hz⟩:=I.tuple hx;have hlen:its.toArray.size=xs.length:=by rw [jq];exact r.length.symm
 refine ⟨"tuple", _,kb.lookup,ht.typeIs,?_⟩
 obtain ⟨os,hos,hcs,hds⟩:=id hs
 have hTs:s.TypeIs (.ref sl) "slice" := ⟨os,hos,hcs⟩
 unfold getItem
 try with_reducible refine wpAny_holding ?_
 first | refine wpAny_bind (wpAny_pure ?_) | skip
 refine wpAny_bind (wpAny_sequenceKey ht.typeIs (by decide) ?_)
 refine wpAny_bind (wpAny_callSpecial?_slot (name:=Str.ofString "__getitem__") ht.typeIs kb
  (wpAny_call_entry kb ht.typeIs entry_tuple_getitem ?_ (args_tuple_getitem _ _)))
 show wpAny _ _ (Builtin.Tuple.tupleItemsOf (.ref a) >>= _) _ _ s;refine wpAny_bind (tupleItemsOf_ ht ?_);refine wpAny_bind (wpAny_typeOf hTs ?_);rw [if_pos (by decide)];refine wpAny_bind (HT.sliceApplied_gen hs pl pu ?_);have hyes:((((HT.sIx its.toArray.size 0 lo:Nat):Int) == 0 && (1:Int) == 1 && (HT.sIx its.toArray.size its.toArray.size hi - HT.sIx its.toArray.size 0 lo) == its.toArray.size)=true):=by
  rw [hlen,hw.1,hw.2];simp
 show wpAny _ _ (if (((HT.sIx its.toArray.size 0 lo:Nat):Int) == 0 && (1:Int) == 1 && (HT.sIx its.toArray.size its.toArray.size hi - HT.sIx its.toArray.size 0 lo) == its.toArray.size)=true then _ else _) _ _ s;rw [if_pos hyes];have fin:EP X pins σ Q (.ref a) s:=⟨.ref a,H,I,rfl,q⟩;refine wpAny_bind (m:=Builtin.Tuple.tupleIsExact (Value.ref a)) ?_;unfold Builtin.Tuple.tupleIsExact;refine wpAny_bind (wpAny_typeOf ht.typeIs (wpAny_pure ?_));rw [if_pos (by decide)];exact wpAny_bind (wpAny_rule (wpAny_pure ⟨_,rfl,wpAny_pure fin⟩))
end
section
end
end L2
namespace HT
open PySem PyProof.Rows
noncomputable def lexLe:List Int->List Int->Bool
 | [],[]=>true
 | [],_::_=>true
 | _::_,[]=>false
 | x::xs,y::ys=>if x=y then lexLe xs ys else decide (x<=y)
theorem Mb (x y:Int) (xs ys:List Int):lexLe (x::xs) (y::ys)=if x=y then lexLe xs ys else decide (x<=y):=rfl
theorem Hi:lexLe [] []=true:=rfl
theorem HD (y:Int) (ys:List Int):lexLe [] (y::ys)=true:=rfl
theorem HE (x:Int) (xs:List Int):lexLe (x::xs) []=false:=rfl
theorem SB (A:Around) (s:Shared) (a:Int) (t:Tok) (c:Int) (u:Tok) (prog:Program) (w:World) (E:Value->Shared->Prop) (Q:Value->Shared->Prop) (h:Q (.bool (decide (a<=c))) s) :
    wpAny (model prog w) A (richCompare .LtE (.int a t) (.int c u)) Q E s:=
  (PyProof.Rows.le_int h:wpAny (model prog w) A (compareOp .LtE (.int a t) (.int c u)) Q E s)
section
open PySem.SeqAt
open PySem.AutoSeq1 (wpAny_loadPart')
open PySem.MeetsSeq PySem.MeetsSeq2 PySem.MeetsSeq3
theorem Hc (l b:Addr) (items items2:Array Value) (n n2:Nat) (dd dd2:Option Addr) (sl sl2:Array (Option Value)) (ns ms:List Int) (hi:IntsAre items.toList ns) (hj:IntsAre items2.toList ms) :
    Meets (Builtin.«tuple.__le__» ⟨[.ref l,.ref b],[]⟩)
      (fun _ R s=>s.heap.get? l=some { cls:=.type "tuple", dict:=dd,data:=.seq items n,slots:=sl }/\s.heap.get? b=some { cls:=.type "tuple", dict:=dd2,data:=.seq items2 n2,slots:=sl2 } /\
        R (.ok (.ret (.bool (lexLe ns ms)))) s):=
  .of_wp fun prog w A R s h=>by
    obtain ⟨hp,g,d,tk,os⟩:=s;obtain ⟨hl,hb,h⟩:=h;have f2:=AutoSeq1.sub_tuple_tuple;have z1:items.size=ns.length:=by rw [<- hi.length];simp
    have z2:items2.size=ms.length:=by rw [<- hj.length];simp
    wp_walk using wpAny_loadPart' hl,wpAny_loadPart' hb,wpAny_forIn_list _ (fun rest b s'=>b.1=none/\s'=⟨hp,g,d,tk,os⟩/\∃ (vs ws:List Value) (ns' ms':List Int),rest=vs.zip ws /\
      IntsAre vs ns'/\IntsAre ws ms'/\ns'.length+items2.size=ms'.length+items.size/\R (.ok (.ret (.bool (lexLe ns' ms')))) ⟨hp,g,d,tk,os⟩) _
    case turn =>
      rintro ⟨y,x⟩ rest b s' ⟨hb',rfl,vs,ws,ns',ms',hz,hvi,hwi,hlen,hR⟩;cases hvi with
      | nil=>rw [List.zip_nil_left] at hz;cases hz
      | cons a t hvi' =>
        cases hwi with
        | nil=>rw [List.zip_nil_right] at hz;cases hz
        | cons c u hwi' =>
          rw [ko] at hz;injection hz with hyx hrest
          injection hyx with hy hx
          subst hy hx;rw [Mb] at hR;simp only [kG] at hlen;obtain ⟨e,he,hiff⟩:=LL A.in1 ⟨hp,g,d,tk,os⟩ a t c u;refine wpAny_bind (he prog w _ _ ?_);cases e with
          | true =>
            rw [if_pos (hiff.mp rfl)] at hR
            wp_walk
            exact ⟨rfl,rfl,_,_,_,_,hrest,hvi',hwi',by omega,hR⟩
          | false =>
            rw [if_neg (fun q=>absurd (hiff.mpr q) kI)] at hR;have hri:=SB A.in1 ⟨hp,g,d,tk,os⟩ a t c u prog w
            wp_walk using hri
            exact ⟨_,rfl,by simpa using hR⟩
    case fin =>
      rintro ⟨b1,b2⟩ s' ⟨hb',rfl,vs,ws,ns',ms',hz,hvi,hwi,hlen,hR⟩;simp only at hb';subst hb';have hv:lexLe ns' ms'=decide (items.size<=items2.size):=by
        cases hvi with
        | nil =>
          cases hwi with
          | nil =>
            simp only [kq] at hlen;rw [Hi];exact (decide_eq_true (by omega)).symm
          | cons c u hw =>
            simp only [kq,kG] at hlen;rw [HD];exact (decide_eq_true (by omega)).symm
        | cons a t hv =>
          cases hwi with
          | nil =>
            simp only [kq,kG] at hlen;rw [HE];exact (decide_eq_false (by omega)).symm
          | cons c u hw =>
            rw [ko] at hz;cases hz
      rw [hv] at hR
      wp_walk
      exact ⟨_,rfl,by simpa [Builtin.Tuple.tupleCompareSizes] using hR⟩
    case h =>
      exact ⟨rfl,rfl,items.toList,items2.toList,ns,ms,rfl,hi,hj,by omega,h⟩
end
section
variable {prog:Program} {w:World} {A:Around} {E:Value->Shared->Prop} {s:Shared}
theorem le_tupInts {l b:Addr} {items items2:Array Value} {ns ms:List Int} {Q:Value->Shared->Prop} (hl:IsTup s.heap l items) (hb:IsTup s.heap b items2) (hi:IntsAre items.toList ns) (hj:IntsAre items2.toList ms)
    (hu:A.units < cLine) (h:Q (.bool (lexLe ns ms)) s):wpAny (model prog w) A (compareOp .LtE (.ref l) (.ref b)) Q E s:=by
  obtain ⟨⟨cls,dd,data,sl⟩,ho,hc,n,hd⟩:=id hl;obtain ⟨⟨cls2,dd2,data2,sl2⟩,ho2,hc2,n2,hd2⟩:=id hb;simp only at hc hd hc2 hd2;subst hc hd hc2 hd2;exact richCompare_meets_room (op:=.LtE) ⟨_,ho,rfl⟩ ⟨_,ho2,rfl⟩ PySem.F.slot_tuple_le PySem.F.entry_tuple_le (PySem.F.args_tuple_le_2 _ _) (Hc l b items items2 n n2 dd dd2 sl sl2 ns ms hi hj)
    ⟨ho,ho2,show Value.bool (lexLe ns ms)≠Value.notImplemented/\Q (.bool (lexLe ns ms)) s from ⟨(fun x=>nomatch x),h⟩⟩ hu
end
end HT
namespace L2
open PySem PySem.Spec PyProof.Rows
section
variable {X:Cx}
def du (K:W.Frag):R2:=fun x y H Q=>∃ a b ns ms,x=.ref a/\y=.ref b/\Cr K H a (ns.map V.int)/\Cr K H b (ms.map V.int)/\Q (.bl (HT.lexLe ns ms)) H
theorem aL (hu:X.A.units < cLine):CQ X (compareOp .LtE) (du X.K):=by
 intro pins s σ H x y v u Q I rx ry h;obtain ⟨a,b,ns,ms,rfl,rfl,ha,hb,q⟩:=h;cases rx;cases ry;obtain ⟨its,r1,p1,_⟩:=I.tuple ha;obtain ⟨its2,r2,p2,_⟩:=I.tuple hb;have i1:IntsAre its.toArray.toList ns:=CO r1;have i2:IntsAre its2.toArray.toList ms:=CO r2;exact HT.le_tupInts p1 p2 i1 i2 hu ⟨.bl (HT.lexLe ns ms),H,I,rfl,q⟩
end
end L2
namespace L2
open PySem PySem.Spec PyProof.Rows PySem.SeqAt
theorem He (l:Addr) (items:Array Value) (n:Nat) (dd:Option Addr) (sl:Array (Option Value)) (x:Value) (e:Value->Bool) (j:Nat) (hj:j < items.size) 
    (hit:e items[j]=true) (hno:∀ m (hm:m < items.size),m < j->e items[m]=false) :
    Meets (Builtin.«tuple.index» ⟨[.ref l,x],[]⟩)
      (fun A R s=>s.heap.get? l=some { cls:=.type "tuple", dict:=dd,data:=.seq items n,slots:=sl }/\(∀ y,y∈items->EqAt A.in1 s y x (e y))/\R (.ok (.ret (.int j s.toks))) { s with toks:=s.toks+1 }):=
  .of_wp fun prog w A R s h=>by
    obtain ⟨hp,g,d,tk,os⟩:=s;obtain ⟨hl,he,h⟩:=h;have f2:=AutoSeq1.sub_tuple_tuple
    wp_walk using wpAny_loadPart' hl
    let f:Nat->(Option Fin×Unit)->Sem (ForInStep (Option Fin×Unit)):=fun i __s =>
            match items[i]? with
            | some y=>do
              let __do_lift <- eqBool y x
              if __do_lift=true then do
                  let __do_lift <- retInt ↑i
                  pure (ForInStep.done (some __do_lift,()))
                else pure (ForInStep.yield (none,()))
            | x=>pure (ForInStep.yield (none,()))
    have key:wpAny (model prog w) A.in1 (forIn [:min items.size items.size] ((none,()):Option Fin×Unit) f) (fun a s' =>
      wpAny (model prog w) A.in1
        (match a.fst with
        | some r=>pure r
        | none=>do
          rule "tuple.index.not-found"
          raiseErrorWords "ValueError" "tuple.index(x): x not in tuple")
        (fun fin s'=>∃ v,fin=Fin.done (Flow.ret v)/\R (Except.ok (Flow.ret v)) s')
        (fun e s'=>R (Except.error e) s') s') (fun e s'=>R (Except.error e) s') { heap:=hp,gens:=g,drawn:=d,toks:=tk,os:=os }:=by
      rw [Std.Legacy.Range.forIn_eq_forIn_range'];simp only [Std.Legacy.Range.size,Nat.sub_zero,la,Nat.div_one,mQ];refine wpAny_forIn_list _ (fun rest b s'=>b=(none,())/\s'=⟨hp,g,d,tk,os⟩/\∃ i,rest=List.range' i (items.size - i)/\i<=j) _ ?_ ?_ _ _ ⟨rfl,rfl,0,by simp,kg _⟩
      · rintro y rest b s' ⟨hb,rfl,i,hr,hi⟩;have hlt:i < items.size:=by omega
        obtain ⟨hy,hrest⟩:y=i/\rest=List.range' (i+1) (items.size - (i+1)):=by
          have e:items.size - i=(items.size - (i+1))+1:=by omega
          rw [e,ml] at hr;injection hr with h1 h2
          exact ⟨h1,h2⟩
        subst hy;show wpAny _ _ (match items[y]? with
            | some z=>do
              let __do_lift <- eqBool z x
              if __do_lift=true then do
                  let __do_lift <- retInt ↑y
                  pure (ForInStep.done (some __do_lift,()))
                else pure (ForInStep.yield (none,()))
            | x=>pure (ForInStep.yield (none,()))) _ _ _
        rw [Array.getElem?_eq_getElem hlt];refine wpAny_bind (he _ (Array.getElem_mem hlt) prog w _ _ ?_)
        by_cases hyj:y=j
        · subst hyj;rw [hit]
          wp_walk
          exact ⟨_,rfl,h⟩
        · rw [hno y hlt (by omega)]
          wp_walk
          exact ⟨rfl,rfl,y+1,hrest,by omega⟩
      · rintro b s' ⟨hb,rfl,i,hr,hi⟩;have:(List.range' i (items.size - i)).length=0:=by rw [<- hr];rfl
        rw [List.length_range'] at this;omega
    refine cast ?_ key;congr 1;funext a s';obtain ⟨a1,a2⟩:=a;cases a1 with
    | none=>rfl
    | some r=>rfl
section
variable {X:Cx}
def gr (r:V->List V->Hp->VK->Prop) (to:TE) (t:TA):TE:=fun σ H Q=>to σ H fun x H1=>(∃ p xs,x=.ref p/\H1 p=some (.tup xs))/\t σ H1 fun xs H2=>r x xs H2 Q
theorem eT {o e:Expr} {es:List Expr} {to:TE} {t:TA} {name:Str} {apos cpos:Pos} {id:String} {r:V->List V->Hp->VK->Prop} (pa:PlainAttrs "tuple") (slot:Slot "tuple" name id) (hty:typeOf (.builtin id)=pure (.type "method_descriptor")) (hm:cM X id r) (ho:PE X o to) (ha:PA X (e::es) t)
    (hbase:attributeBase o name X.env (eval o X.env)=eval o X.env:=by rfl)
    (hfew:((backTo cpos (starEach (e::es) X.env)).all (fun x=>!x.1) && (backToKw cpos (keywordEach [] X.env)).all (fun x=>x.1.isSome)
      && decide ((e::es).length+([]:List Keyword).length+(if ([]:List Keyword).isEmpty then 0 else 1) < 30))=true:=by rfl)
    (hline:(apos.endLine == cpos.line)=true:=by rfl) (hs:starEach (e::es) X.env=(false,eval e X.env)::starEach es X.env:=by rfl) (hplain:(backTo cpos (starEach es X.env)).any (·.1)=false:=by rfl) :
    PE X (.Call (.Attribute o name apos) (e::es) [] cpos) (gr r to t):=by
  intro pins s σ H Q I h;refine wpAny_Call_method_late hbase hfew hline rfl (Ae (ho pins s σ H _ I h) fun v s1 ⟨x,H1,I1,r1,ty,q1⟩=>?_);obtain ⟨p,xs,rfl,hp⟩:=ty;cases r1;obtain ⟨_,its,_,ob,h1,hc,hd,_⟩:=I1.hok p _ hp
  refine ⟨"tuple", id,pa,slot,hty,⟨ob,h1,hc⟩,fun a e=>by cases e;exact ⟨ob,h1,hd⟩,?_⟩
  have hA:=ha cpos pins s1 σ H1 _ I1 q1;rw [hs] at hA ⊢;refine Calls.callWith_builtin (by show (false || (backTo cpos (starEach es X.env)).any (·.1))=false;rw [hplain]<;>rfl) (Calls.evalArgs_plain ?_);exact Ae hA fun us s2 ⟨vs,H2,I2,r2,q2⟩=>hm pins s2 σ H2 (.ref p) vs (.ref p) us Q I2 rfl r2 q2
def YB (K:W.Frag):R2:=fun x y H Q=>∃ a b ys,x=.ref a/\y=.ref b/\Cr K H a []/\Cr K H b ys/\Q (.ref b) H
theorem WD:CQ X (binaryOp .Add) (YB X.K):=by
  intro pins s σ H x y v u Q I rx ry h;obtain ⟨a,b,ys,rfl,rfl,ha,hb,q⟩:=h;cases rx;cases ry;obtain ⟨its,r1,p1,_⟩:=I.tuple ha;obtain ⟨its2,r2,p2,_⟩:=I.tuple hb;cases r1;obtain ⟨⟨cls,dd,data,sl⟩,ho,hc,n,hd⟩:=id p1;obtain ⟨⟨cls2,dd2,data2,sl2⟩,ho2,hc2,n2,hd2⟩:=id p2;simp only at hc hd hc2 hd2;subst hc hd hc2 hd2;exact concat_meets ⟨_,ho,rfl⟩ ⟨_,ho2,rfl⟩ noFill_tuple_add seq_tuple_add PySem.F.slot_tuple_add PySem.F.entry_tuple_add (PySem.F.args_tuple_add_2 _ _)
      (tuple_addW0 a b _ its2.toArray n n2 dd dd2 sl sl2 (by simp)) ⟨ho,ho2,⟨.ref b,H,I,rfl,q⟩⟩
def KZ (K:W.Frag):R2:=fun x y H Q=>Ka K x y H Q\/YB K x y H Q
theorem WE (K:W.Frag) (h:X.K=K:=by rfl):CQ X (binaryOp .Add) (KZ K):=by subst h;exact WG.or WD
theorem Uh {K:W.Frag} {i j:Int} {H:Hp} {Q:VK} (q:Q (.int (i+j)) H):KZ K (.int i) (.int j) H Q:=.inl (Uk q)
theorem Ue {K:W.Frag} {i j:Str} {H:Hp} {Q:VK} (h:i.length+j.length<=1000000) (q:Q (.str (i++j)) H):KZ K (.str i) (.str j) H Q:=.inl (Ui h q)
theorem Ug {K:W.Frag} {a b:Addr} {xs ys:List V} {H:Hp} {Q:VK} (ha:H a=some (.lst xs)) (hb:H b=some (.lst ys)) (h:xs.length+ys.length<=1000000) (q:∀ p,H p=none->Q (.ref p) (upd H p (.lst (xs++ys)))):KZ K (.ref a) (.ref b) H Q:=.inl (Uj ha hb h q)
def PN (K:W.Frag):V->Option Int->Option Int->Hp->VK->Prop:=fun x lo hi H Q=>SF K x lo hi H Q\/de K x lo hi H Q
theorem gw (K:W.Frag) (h:X.K=K:=by rfl):Qz X (PN K):=by subst h;exact ZM.or VR
theorem VN {K:W.Frag} {z:Str} {lo hi:Option Int} {H:Hp} {Q:VK} (h:z.length<=1000000) (q:Q (.str (Txt.slice z lo hi)) H):PN K (.str z) lo hi H Q:=.inl (VP h q)
theorem ZI {K:W.Frag} {a:Addr} {xs:List V} {lo hi:Option Int} {H:Hp} {Q:VK} (h:CB K H a xs) (q:∀ p,H p=none->Q (.ref p) (upd H p (.lst (Ep xs lo hi)))):PN K (.ref a) lo hi H Q:=.inl (Rp h q)
theorem VO {K:W.Frag} {a:Addr} {xs:List V} {lo hi:Option Int} {H:Hp} {Q:VK} (h:H a=some (.lst xs)) (q:∀ p,H p=none->Q (.ref p) (upd H p (.lst (Ep xs lo hi)))):PN K (.ref a) lo hi H Q:=.inl (VQ h q)
def SE:V->List V->Hp->VK->Prop:=fun x vs H Q=>∃ l,x=.str (tx l)/\vs=[]/\(∀ c∈l,c < 128)/\l.length<=1000000/\Q (.str (tx (l.map up1))) H
theorem Si:cZ X "str.upper" SE:=by
 intro pins s σ H x vs v us Q I rx rv h;obtain ⟨l,rfl,rfl,hA,hz,q⟩:=h;obtain ⟨t,rfl⟩:=rx;cases rv.zero;have e:Txt.upper (tx l)=tx (l.map up1):=by
  rw [upper_ascii (by rw [GJ];exact hA)];simp [tx]
 refine SC.upper (by rw [e,CF,jv];exact decide_eq_false (by have:sizeLine=16777216:=sizeLine_eq;omega)) ⟨.str (tx (l.map up1)),H,I.tok _,⟨_,by rw [e]⟩,q⟩
end
end L2
namespace L2
open PySem PySem.Spec PyProof.Rows
section
variable {prog:Program} {w:World} {A:Around} {E:Value->Shared->Prop}
theorem Ic {it t:Addr} {items:Array Value} (hne:t≠it):∀ (n i:Nat) (s:Shared) (Q:List Value->Shared->Prop),s.heap.IsListIter it t i->s.heap.IsList t items->i+n<=items.size ->
    (∀ h',h'.IsListIter it t (i+n)->Heap.SameBut it s.heap h'->Q ((items.toList.drop i).take n) { s with heap:=h' })->wpAny (model prog w) A (draw (.ref it) n) Q E s
  | 0,i,s,Q,hit,_,_,hQ=>by
    show wpAny _ _ (pure []) Q E s;exact wpAny_pure (by simpa using hQ s.heap hit (Heap.SameBut.refl ..))
  | n+1,i,s,Q,hit,ht,hle,hQ=>by
    have hlt:i < items.size:=by omega
    show wpAny _ _ (pyNext (.ref it) >>= _) Q E s;refine wpAny_bind (wpAny_pyNext_list_item hit ht (x:=items[i]) (by simp [hlt]) fun h₁ hit₁ hs₁=>?_);refine wpAny_bind (wpAny_holding (Ic hne n (i+1) _ _ hit₁ (ht.extBut hs₁.extBut hne) (by omega) fun h₂ hit₂ hs₂=>wpAny_pure ?_));have hd:items.toList.drop i=items[i]::items.toList.drop (i+1):=by simp [mH,hlt]
    have:=hQ h₂ (by rw [show i+(n+1)=i+1+n by omega];exact hit₂) (hs₁.trans hs₂);rw [hd,mV] at this;exact this
theorem FA {s:Shared} {t:Addr} {items:Array Value} {Q:List Value->Shared->Prop} (hh:A.handled=none) (ht:s.heap.IsList t items)
    (hQ:∀ h',Heap.ExtBut s.heap.objs.size s.heap h'->Q items.toList { s with heap:=h' }):wpAny (model prog w) A (unpackItems (.ref t) items.size none) Q E s:=by
  have hlt:t≠s.heap.objs.size:=by obtain ⟨o,ho,_⟩:=ht;exact kP (kF ho)
  unfold unpackItems;refine wpAny_bind ?_
  · unfold notIterableAtAll;refine wpAny_bind (wpAny_specialOf ht.typeIs PySem.slot_list_iter.lookup ?_);refine wpAny_pure ?_;simp only [jr,if_false];refine wpAny_bind (wpAny_holding (wpAny_pyIter_list ht ?_));refine wpAny_bind (wpAny_holding (Ic hlt items.size 0 _ _ ⟨_,kD _ rfl,rfl,rfl⟩ (ht.push _) (by omega) fun h₁ hit₁ hs₁=>?_));have hall:List.take items.size (List.drop 0 items.toList)=items.toList:=by
      rw [List.drop_zero];exact mN (by simp)
    rw [hall];rw [if_neg (by simp)];have ht₁:h₁.IsList t items:=(ht.push _).extBut hs₁.extBut hlt;refine wpAny_bind (wpAny_holding (wpAny_pyNext_list_end hh hit₁ ht₁ (by simp) fun h₂ he₂=>?_));simp only [Option.isSome_none,jr,if_false];refine wpAny_pure (hQ h₂ fun b o hb e=>he₂ b o hb (hs₁.extBut b o hb (jm _ e)))
theorem KA {s:Shared} {t:Addr} {items:Array Value} {targets:List (Bool×(Value->Sem Unit))} {Q:Unit->Shared->Prop} (hh:A.handled=none) (ht:s.heap.IsList t items)
    (hn:targets.length=items.size) (hstar:targets.findIdx? (·.1)=none)
    (h:∀ h',Heap.ExtBut s.heap.objs.size s.heap h'->wpAny (model prog w) A (assignInOrder (targets.map (·.2)) items.toList) Q E { s with heap:=h' }) :
    wpAny (model prog w) A (unpack (.ref t) targets) Q E s:=by
  unfold unpack;rw [hn,hstar];exact wpAny_bind (wpAny_holding (FA hh ht h))
end
section
variable {X:Cx}
abbrev az (n:Nat) (t:NU):TG:=fun v σ H Q=>∃ a xs,v=.ref a/\H a=some (.lst xs)/\xs.length=n/\t xs σ H Q
theorem Zt {es:List Expr} {k:Nat} {t:NU} {n:Nat} {pos:Pos} (hc:X.calm=true) (h:cX X es t)
    (hn:(assignEach es X.env).length=n:=by rfl) (hst:(assignEach es X.env).findIdx? (·.1)=none:=by rfl):PG X (.Tuple es k pos) (az n t):=by
  intro pins s σ H v u Q I r hw;obtain ⟨a,xs,e1,hq,hl,hw⟩:=hw;subst e1;cases r;obtain ⟨its,rv,ht,hz⟩:=I.list (.inl (.inl hq));rw [assign_Tuple];refine wpAny_bind (wpAny_standAt (KA (I.ok.hd hc) ht.isList (by simp [hn,<- hl,rv.length]) hst fun h' hx=>?_));have I1:Inv X pins σ H { s with heap:=h' }:=I.kept (t':=s.toks) fun b o e=>hx b o (kP (kF e)) e
  exact h pins _ σ H xs _ Q I1 (by simpa using rv) hw
theorem WY {n:Nat} {js:List Nat} {u:NU} (hu:Qv js u):RB js (az n u):=by
 rintro x σ H Q ⟨a,xs,e,hq,hl,q⟩;exact ⟨a,xs,e,hq,hl,hu _ _ _ _ q⟩
end
end L2
namespace L2
open PySem PySem.Spec PyProof.Rows PySem.SeqAt
inductive D where
 | fl (v:V)
 | tup (ds:List D)
 | lst (ds:List D)
mutual
noncomputable def eqD:D->D->Bool
 | .fl a,.fl b=>eqV a b
 | .tup a,.tup b=>eqDs a b
 | .lst a,.lst b=>eqDs a b
 | _,_=>false
noncomputable def eqDs:List D->List D->Bool
 | [],[]=>true
 | x::xs,y::ys=>eqD x y && eqDs xs ys
 | _,_=>false
end
mutual
noncomputable def D.dep:D->Nat
 | .fl _=>0
 | .tup ds=>depL ds+1
 | .lst ds=>depL ds+1
noncomputable def depL:List D->Nat
 | []=>0
 | d::ds=>max d.dep (depL ds)
end
mutual
noncomputable def Is (H:Hp):V->D->Prop
 | x,.fl v=>x=v/\EH v=true
 | x,.tup ds=>∃ a xs,x=.ref a/\H a=some (.tup xs)/\IsL H xs ds
 | x,.lst ds=>∃ a xs,x=.ref a/\H a=some (.lst xs)/\IsL H xs ds
noncomputable def IsL (H:Hp):List V->List D->Prop
 | [],[]=>True
 | x::xs,d::ds=>Is H x d/\IsL H xs ds
 | _,_=>False
end
theorem IsL.inv {H:Hp} {x:V} {xs:List V} {es:List D} (h:IsL H (x::xs) es):∃ d ds,es=d::ds/\Is H x d/\IsL H xs ds:=by
 cases es with
 | nil=>unfold IsL at h;exact h.elim
 | cons d ds=>unfold IsL at h;exact ⟨d,ds,rfl,h.1,h.2⟩
theorem IsL.length {H:Hp}:∀ {xs:List V} {ds:List D},IsL H xs ds->xs.length=ds.length
 | [],[],_=>rfl
 | [],_::_,h=>by unfold IsL at h;exact h.elim
 | _::_,[],h=>by unfold IsL at h;exact h.elim
 | x::xs,d::ds,h=>by unfold IsL at h;rw [kG,kG,IsL.length h.2]
mutual
theorem Is.inj {H:Hp}:∀ {d e:D} {x:V},Is H x d->Is H x e->d=e
 | .fl v,e,x,h,k=>by
  unfold Is at h;obtain ⟨rfl,hf⟩:=h;cases e with
  | fl u=>unfold Is at k;rw [k.1]
  | tup es=>unfold Is at k;obtain ⟨a,xs,rfl,_⟩:=k;cases hf
  | lst es=>unfold Is at k;obtain ⟨a,xs,rfl,_⟩:=k;cases hf
 | .tup ds,e,x,h,k=>by
  unfold Is at h;obtain ⟨a,xs,rfl,h1,h2⟩:=h;cases e with
  | fl u=>unfold Is at k;obtain ⟨k1,k2⟩:=k;rw [<- k1] at k2;cases k2
  | tup es =>
   unfold Is at k;obtain ⟨b,ys,e,k1,k2⟩:=k;cases e;rw [h1] at k1;cases k1;rw [IsL.inj h2 k2]
  | lst es=>unfold Is at k;obtain ⟨b,ys,e,k1,k2⟩:=k;cases e;rw [h1] at k1;cases k1
 | .lst ds,e,x,h,k=>by
  unfold Is at h;obtain ⟨a,xs,rfl,h1,h2⟩:=h;cases e with
  | fl u=>unfold Is at k;obtain ⟨k1,k2⟩:=k;rw [<- k1] at k2;cases k2
  | lst es =>
   unfold Is at k;obtain ⟨b,ys,e,k1,k2⟩:=k;cases e;rw [h1] at k1;cases k1;rw [IsL.inj h2 k2]
  | tup es=>unfold Is at k;obtain ⟨b,ys,e,k1,k2⟩:=k;cases e;rw [h1] at k1;cases k1
theorem IsL.inj {H:Hp}:∀ {ds es:List D} {xs:List V},IsL H xs ds->IsL H xs es->ds=es
 | [],es,[],h,k=>by
  cases es with
  | nil=>rfl
  | cons e es=>unfold IsL at k;exact k.elim
 | [],_,_::_,h,_=>by unfold IsL at h;exact h.elim
 | _::_,_,[],h,_=>by unfold IsL at h;exact h.elim
 | d::ds,es,x::xs,h,k=>by
  unfold IsL at h;obtain ⟨e,es',rfl,k1,k2⟩:=k.inv;rw [Is.inj h.1 k1,IsL.inj h.2 k2]
end
theorem eqV_refl {v:V} (h:EH v=true):eqV v v=true:=by
 cases v<;>first | rfl | (simp [eqV];done) | cases h
mutual
theorem eqD_refl {H:Hp}:∀ {d:D} {x:V},Is H x d->eqD d d=true
 | .fl v,x,h=>by unfold Is at h;unfold eqD;exact eqV_refl h.2
 | .tup ds,x,h=>by unfold Is at h;obtain ⟨_,_,_,_,h2⟩:=h;unfold eqD;exact eqDs_refl h2
 | .lst ds,x,h=>by unfold Is at h;obtain ⟨_,_,_,_,h2⟩:=h;unfold eqD;exact eqDs_refl h2
theorem eqDs_refl {H:Hp}:∀ {ds:List D} {xs:List V},IsL H xs ds->eqDs ds ds=true
 | [],_,_=>by unfold eqDs;rfl
 | _::_,[],h=>by unfold IsL at h;exact h.elim
 | d::ds,x::xs,h=>by
  unfold IsL at h;unfold eqDs;rw [eqD_refl h.1,eqDs_refl h.2];rfl
end
section
variable {X:Cx} {pins:List (Addr×Obj)} {σ:St} {H:Hp} {s:Shared}
def eAt (ds es:List D) (i:Nat):Bool:=match ds[i]?,es[i]? with | some a,some b=>eqD a b | _,_=>true
theorem eAt_of {ds es:List D} {i:Nat} {a b:D} (h1:ds[i]?=some a) (h2:es[i]?=some b):eAt ds es i=eqD a b:=by unfold eAt;rw [h1,h2]
end
end L2
namespace L2
open PySem PySem.Spec PyProof.Rows
inductive T where
 | leaf (k:Str) (v:V)
 | op (s:Str) (m n:T)
 | many (k w:Str) (ts:List T)
 | lett (x:Str) (a b:T)
 | loop (i:Str) (n:T) (x:Str) (a b:T)
 | pick (n:T) (ts:List T)
noncomputable abbrev sD (x:Str):D:=.fl (.str x)
mutual
noncomputable def T.toD:T->D
 | .leaf k v=>.tup [sD k,.fl v]
 | .op s m n=>.tup [sD "op", sD s,m.toD,n.toD]
 | .many k w ts=>.tup [sD k,sD w,.tup (toDs ts)]
 | .lett x a b=>.tup [sD "let", sD x,a.toD,b.toD]
 | .loop i n x a b=>.tup [sD "loop", sD i,n.toD,sD x,a.toD,b.toD]
 | .pick n ts=>.tup [sD "pick", n.toD,.tup (toDs ts)]
noncomputable def toDs:List T->List D
 | []=>[]
 | t::ts=>t.toD::toDs ts
end
mutual
noncomputable def T.size:T->Nat
 | .leaf _ _=>1
 | .op _ m n=>1+m.size+n.size
 | .many _ _ ts=>1+Rr ts
 | .lett _ a b=>1+a.size+b.size
 | .loop _ n _ a b=>1+n.size+a.size+b.size
 | .pick n ts=>1+n.size+Rr ts
noncomputable def Rr:List T->Nat
 | []=>0
 | t::ts=>t.size+Rr ts
end
noncomputable def T.kids:T->List T
 | .leaf _ _=>[]
 | .op _ m n=>[m,n]
 | .many _ _ ts=>ts
 | .lett _ a b=>[a,b]
 | .loop _ n _ a b=>[n,a,b]
 | .pick n ts=>n::ts
mutual
noncomputable def T.ok:T->Bool
 | .leaf k v=>(k == ("num" : Str) || k == ("count" : Str) || k == ("name" : Str) || k == ("fixed" : Str) || k == ("input" : Str)) && EH v
 | .op _ m n=>m.ok && n.ok
 | .many k _ ts=>(k == ("do" : Str) || k == ("call" : Str)) && oks ts
 | .lett _ a b=>a.ok && b.ok
 | .loop _ n _ a b=>n.ok && a.ok && b.ok
 | .pick n ts=>n.ok && oks ts
noncomputable def oks:List T->Bool
 | []=>true
 | t::ts=>t.ok && oks ts
end
end L2
namespace L2
open PySem PySem.Spec PyProof.Rows PySem.SeqAt
section
end
end L2
namespace L2
open PySem PySem.Spec PyProof.Rows
section
variable {prog:Program} {w:World} {A:Around} {E:Value->Shared->Prop} {s:Shared}
theorem Ma:typeLookup (.type "list_reverseiterator") "__len__" = pure none:=by rw [typeLookup_type,builtinLookup_eq_fast];kernel_rfl
theorem Sl:typeLookup (.type "list_reverseiterator") "__length_hint__" = pure (some (.builtin "list_reverseiterator.__length_hint__")):=by rw [typeLookup_type,builtinLookup_eq_fast];kernel_rfl
theorem Ry {r:Addr} {Q:Bool->Shared->Prop} (hT:s.TypeIs (.ref r) "list_reverseiterator") (h:Q false s):wpAny (model prog w) A (Builtin.List.listLengthHint (.ref r)) Q E s:=by
 unfold Builtin.List.listLengthHint;refine wpAny_bind (wpAny_specialOf hT Ma ?_);refine wpAny_bind (wpAny_specialOf hT Sl ?_)
 generalize hid:("list_reverseiterator.__length_hint__" : String)=id0
 wp_delta
 rw [show splitId id0=some ("list_reverseiterator", "__length_hint__") from by subst hid;decide +kernel]
 subst hid
 refine wpAny_bind (wpAny_isInstance (T := "list_reverseiterator") (b:=true) hT (by rw [isSubtype_type];kernel_rfl) ?_)
 refine wpAny_ite_split (fun hab=>absurd hab (by decide)) (fun _=>?_);refine wpAny_ite_split (fun _=>?_) (fun hab=>absurd (by decide +kernel) hab);refine wpAny_ite_split (fun hab=>absurd hab (by decide +kernel)) (fun _=>?_);exact wpAny_pure h
theorem Rz {p l:Addr} {items:Array Value} {Q:Value->Shared->Prop} (hh:A.handled=none) (hne:l≠p) (hit:s.heap.IsRevIter p l ((items.size:Int) - 1)) (hl:s.heap.IsList l items) (hn:items.size<=sizeLine)
    (hQ:∀ h' tk c',(∀ b o,b≠p->s.heap.get? b=some o->h'.get? b=some o)->h'.get? s.heap.objs.size=some { cls:=.type "list", dict:=none,data:=.seq items.reverse c',slots:=#[] }->Q (.ref s.heap.objs.size) { s with heap:=h',toks:=tk }) :
    wpAny (model prog w) A (call (.type "list") [.ref p]) Q E s:=by
  have hpl:p < s.heap.objs.size:=by obtain ⟨o,e,_⟩:=hit;exact kF e
  have hll:l < s.heap.objs.size:=by obtain ⟨o,e,_⟩:=hl;exact kF e
  refine callType_codes (Q₁:=fun obj s₁=>obj=.ref s.heap.objs.size/\s₁={ s with heap:=s.heap.push { cls:=.type "list", data:=.seq #[] } }) PySem.F.called_list (PySem.F.typeCall_list_1 _) PySem.F.entry_list_init
    (code_list_new _ ⟨rfl,rfl⟩) fun obj s₁ h₁=>?_
  obtain ⟨rfl,rfl⟩:=h₁
  have hS:(s.heap.push { cls:=.type "list", data:=.seq #[] }).get? s.heap.objs.size=some { cls:=.type "list", data:=.seq #[] }:=kD _ rfl
  generalize hSe:s.heap.objs.size=S at *;have hSp:S≠p:=mE hpl;have hSl:S≠l:=mE hll;refine ⟨⟨_,hS,rfl⟩,PySem.F.args_list_init_2 _ _,?_⟩;show wpAny _ _ (do let old <- Builtin.List.listItems (.ref S);Builtin.List.listUpdate (.ref S) (fun _=>#[]);letGo old.toList.reverse;Builtin.List.listExtendWith (.ref S) (.ref p) .none) _ _ _;refine wpAny_bind ?_;unfold Builtin.List.listItems;refine wpAny_bind (wpAny_seqItems hS rfl (wpAny_pure ?_));show wpAny _ _ (updateSeq S (fun _=>#[]) >>= fun _=>letGo (#[]:Array Value).toList.reverse >>= fun _=>Builtin.List.listExtendWith (.ref S) (.ref p) .none) _ _ _;refine wpAny_bind (wpAny_updateSeq hS rfl ?_);have hS₂:=lP (Obj.mapSeq (fun _=>(#[]:Array Value))) hS rfl
  have oth:∀ b o,b≠S->s.heap.get? b=some o->((s.heap.push { cls:=.type "list", data:=.seq #[] }).update S (Obj.mapSeq (fun _=>(#[]:Array Value)))).get? b=some o:=
    fun b o hb e=>(km _ _ (Ne.symm hb)).trans (jm _ e)
  refine wpAny_bind (wpAny_letGo ?_)
  generalize (s.heap.push { cls:=.type "list", data:=.seq #[] }).update S (Obj.mapSeq (fun _=>(#[]:Array Value)))=h1 at hS₂ oth ⊢
  have hit1:h1.IsRevIter p l ((items.size:Int) - 1):=hit.at fun o e=>oth p o hSp.symm e
  have hl1:h1.IsList l items:=hl.at fun o e=>oth l o hSl.symm e
  unfold Builtin.List.listExtendWith
  refine wpAny_bind (wpAny_typeOf (T := "list_reverseiterator") (s:={ s with heap:=h1 }) hit1.typeIs ?_)
  have e1:Builtin.List.listSameRef (.ref S) (.ref p)=false:=by simp [Builtin.List.listSameRef,hSp]
  have e2:(Value.type "list_reverseiterator" == Value.type "list")=false:=by decide
  have e3:(Value.type "list_reverseiterator" == Value.type "tuple")=false:=by decide
  simp only [e1,e2,e3,Bool.or_false,jr,if_false];refine wpAny_bind (wpAny_pyIter_revIter (s:={ s with heap:=h1 }) hit1 ?_);refine wpAny_bind (wpAny_holding (Ry (s:={ s with heap:=h1 }) hit1.typeIs ?_));refine wpAny_ite_split (fun hab=>absurd hab (by decide +kernel)) (fun _=>?_);have W:=Walks.listRev (prog:=prog) (w:=w) (A:=A.in1.in1) hh p l hne items;refine wpAny_pure ⟨plainId_quiet PySem.F.plain_extend_loop _,codeAny_extend_loopS (A:=A.in1) W.toS hn S (by simp [hSp,hSl]) _ items.size 0 { s with heap:=h1 } #[] _ rfl (kg _) ⟨kg _,by simpa using hit1,hl1⟩ hS₂ (ItemsOf.nil _) fun s' acc' c' hm hS' hacc=>?_⟩;rw [Moved.eq_with hm];have er:acc'=items.reverse:=by
    apply Array.ext
    · rw [hacc.1,Array.size_reverse]
    · intro i h1 h2;have this:items[items.size - 1 - i]?=some acc'[i]:=hacc.2 i (acc'[i]) (Array.getElem?_eq_getElem h1);rw [Array.getElem_reverse];have h3:i < items.size:=by rw [<- hacc.1];exact h1
      rw [Array.getElem?_eq_getElem (by omega)] at this;exact (Option.some.inj this).symm
  subst er;refine ⟨rfl,hQ s'.heap s'.toks c' (fun b o hb e=>hm.heap b o (fun hmem=>?_) (oth b o ?_ e)) hS'⟩
  · rcases kZ.mp hmem with e' | hmem
    · exact absurd (kF e) (by rw [hSe,e'];exact lC _)
    · exact hb (kY.mp hmem)
  · intro e';exact absurd (kF e) (by rw [hSe,e'];exact lC _)
end
section
variable {X:Cx} {e:Expr} {te:TE} {p1 p2 pos1 pos2:Pos}
abbrev RY (K:W.Frag) (te:TE):TE:=fun σ H Q=>te σ H fun v H1=>∃ a xs,v=.ref a/\CB K H1 a xs/\∀ l,H1 l=none->Q (.ref l) (upd H1 l (.lst xs.reverse))
theorem ES:∀ {xs:List V} {us:List Value},AD xs us->AD xs.reverse us.reverse
 | _,_,.nil=>.nil
 | _,_,.cons (a:=x) (b:=u) (l₁:=xs) (l₂:=us) r t=>by
  rw [lq,lq];exact AD.append (ES t) (.cons r .nil)
theorem MR (hc:X.calm=true) (hgL:Gl X "list") (hmL:X.mg "list" = none) (hgR:Gl X "reversed") (hmR:X.mg "reversed" = none) (he:PE X e te)
    (hs1:starEach [.Call (.Name "reversed" p2) [e] [] pos2] X.env=(false,eval (.Call (.Name "reversed" p2) [e] [] pos2) X.env)::starEach [] X.env:=by rfl)
    (hpl1:(backTo pos1 (starEach [] X.env)).any (·.1)=false:=by rfl)
    (hs2:starEach [e] X.env=(false,eval e X.env)::starEach [] X.env:=by rfl)
    (hpl2:(backTo pos2 (starEach [] X.env)).any (·.1)=false:=by rfl) :
    PE X (.Call (.Name "list" p1) [.Call (.Name "reversed" p2) [e] [] pos2] [] pos1) (RY X.K te):=by
  intro pins s σ H Q I h;refine wpAny_Call_Name_kw (BZ I hgL hmL PyProof.Rows.Boot.«list» ?_ (by decide) (by decide));refine kX ?_ hs1 hpl1;rw [hs1]
  show wpAny _ _ (spliced ((false,eval (.Call (.Name "reversed" p2) [e] [] pos2) X.env)::backTo pos1 (starEach [] X.env))) _ _ s
  refine Calls.spliced_cons ?_;refine wpAny_Call_Name_kw (BZ I hgR hmR PyProof.Rows.Boot.«reversed» ?_ (by decide) (by decide));refine kX ?_ hs2 hpl2;rw [hs2];show wpAny _ _ (spliced ((false,eval e X.env)::backTo pos2 (starEach [] X.env))) _ _ s;refine Calls.spliced_cons (Ae (he pins s σ H _ I h) fun v s1 ⟨x,H1,I1,r1,q1⟩=>?_);obtain ⟨a,xs,ex,hq,q⟩:=q1;subst ex;cases r1;obtain ⟨its,rv,pl,hz⟩:=I1.list hq;have hlen:=rv.length;refine Calls.spliced_nil ?_;have hil:=pl.isList;refine call_reversed_list hil ?_;refine Calls.spliced_nil ?_;have hal:a < s1.heap.objs.size:=by obtain ⟨o,e,_⟩:=hil;exact kF e
  refine Rz (s:={ s1 with heap:=s1.heap.push (revObj a ((its.toArray.size:Int) - 1)) }) (I1.ok.hd hc) (kP hal) ⟨_,kD _ rfl,rfl,rfl⟩ (hil.at fun o e=>jm _ e) (by simp only [jq];omega) fun h' tk c' kp eh=>?_
  have kp':∀ b o,s1.heap.get? b=some o->h'.get? b=some o:=fun b o e=>kp b o (kP (kF e)) (jm _ e)
  have hsz:(s1.heap.push (revObj a ((its.toArray.size:Int) - 1))).objs.size=s1.heap.objs.size+1:=size_push' _ _;refine ⟨.ref _,_,I1.laid (t':=tk) kp' (by rw [hsz];exact lN _) (show An X.prog X.w _ h' _ (.lst xs.reverse) from ⟨by rw [lI];exact hz,its.reverse,c',ES rv,by rw [eh];simp⟩),rfl,q _ (I1.hok.fresh (by rw [hsz];exact lN _))⟩
end
section
variable {X:Cx} {pins:List (Addr×Obj)} {σ:St} {H:Hp} {s:Shared} {h':Heap}
theorem Inv.turnedL {t':Nat} {ch:List Addr} (I:Inv X pins σ H s) (k:∀ b o,b∉ch->s.heap.get? b=some o->h'.get? b=some o) (hf:∀ b∈ch,FpOk X pins H b):Inv X pins σ H { s with heap:=h',toks:=t' }:=by
 have nit:∀ b u,H b=some u->b∉ch:=fun b u e z=>by have:=(hf b z).1;rw [e] at this;cases this
 refine I.step (g':=s.gens) (d':=s.drawn) (ch:=ch) (fun b hb=>?_) (fun b o _ _ hc e _=>k b o hc e) (fun b o _ _ hc e _=>⟨o.slots,k b o hc e⟩) (fun _ _ _ _ n=>n)
  (fun b o hc e=>⟨o,k b o hc e⟩) (fun _ _ e=>e) (fun _ _ _ e=>e) (fun b ps e=>⟨#[],by rw [e];simp⟩) (fun m hm=>?_) (fun b u e=>?_) I.bare
 ·obtain ⟨f0,f1,f2,f3,f4,f5⟩:=hf b hb;exact ⟨f3,f1,f4,f5⟩
 ·obtain ⟨o,es,ep,ho,r⟩:=hm;exact ⟨o,es,ep,k _ o (fun z=>(hf _ z).2.1 rfl) ho,r⟩
 ·refine (I.hok b u e).stay (fun c v hc q=>k c v ?_ q) (fun _ q=>q) fun _ _ q=>q
  rcases hc with z | z
  ·rw [z];exact nit b u e
  ·exact nit c _ z
end
section
end
noncomputable def gc (hi:Int) (n:Nat):It:=⟨fun i _=>i < n,fun i H x H'=>H'=H/\x=.int (hi - i),fun i _=>n<=i⟩
theorem Oz {P:Program} {w:World} {K:W.Frag} {tg:Expr} (it:Addr) (hi:Int) (n:Nat):Turn P w K tg (gc hi n) [it] it (fun i h=>IsRangeIter h it (hi+(i:Nat) * (-1)) ((n:Int) - (i:Nat)) (-1)) where
 mem:=by simp
 obj:=fun i h st b hb=>by
  have e:b=it:=by simpa using hb
  subst e;exact ⟨_,st,fun v z=>by
   have z':Data.fields _=Data.cell v:=z;cases z'⟩
 keep:=fun i h h' st k=>k it (by simp) _ st
 item:=by
  intro X hP hw hK hc i pins s σ H E I hf st hg;subst hP hw hK;obtain ⟨f0,f1,f2,f3,f4,f5⟩:=hf it (by simp);have W:=Walks.range (prog:=X.prog) (w:=X.w) (I.ok.hd hc) it hi (-1) n;refine W.item i s _ _ hg st fun v h' tk hv st' kk=>?_
  obtain ⟨t,rfl⟩:=hv;have I1:Inv X pins σ H { s with heap:=h',toks:=tk }:=I.turned (fun b o hb e=>kk b o (by simpa using hb) e) f0 f1 f3 f4 f5
  refine ⟨_,rfl,IX (s:={ s with heap:=h',toks:=tk }) (n := "range_iterator") st' rfl rfl (by decide) ⟨.int (hi - i),H,I1,⟨t,?_⟩,⟨rfl,rfl⟩,st',fun b hb=>(hf b hb).1⟩⟩
  congr 1;omega
 done:=by
  intro X hP hw hK hc i pins s σ H E I hf st hg;subst hP hw hK;obtain ⟨f0,f1,f2,f3,f4,f5⟩:=hf it (by simp);exact wpAny_pyNext_range_end (I.ok.hd hc) st (by have:n<=i:=hg;omega) fun h' eb=>⟨rfl,I.turned (t':=s.toks) (fun b o hb e=>eb b o hb e) f0 f1 f3 f4 f5⟩
 self:=fun _ _ _ _ _ st h=>wpAny_pyIter_rangeiter st h
theorem DU (a b:Int):Builtin.Range.rangeSize a b (-1)=if a > b then a - b else 0:=by
 unfold Builtin.Range.rangeSize;rw [if_neg (by decide)];split
 ·rw [show -(-1:Int)=1 by decide,Int.ediv_one];omega
 ·rfl
theorem MD {a b:Int} (ha:-(2 ^ 62)<=a) (ha':a < 2 ^ 62) (hb:-(2 ^ 62)<=b) (hb':b < 2 ^ 62):Builtin.Range.small a b (-1)=true:=by
 unfold Builtin.Range.small;rw [DU];simp only [Builtin.Range.rangeFitsLong,jh,mT,decide_eq_true_eq,beq_iff_eq,show ¬ ((-1:Int) > 0) by decide,if_false];split<;>omega
section
variable {X:Cx} {tg:Expr}
abbrev fG (ta:TA):TI:=fun σ H R=>ta σ H fun vs H1=>∃ i j:Int,vs=[.int i,.int j,.int (-1)]/\(-1000000<=i/\i < 1000000/\-1000000<=j/\j < 1000000)/\R (gc i (i - j).toNat) H1
theorem PY {a b c:Expr} {ta:TA} {p pos:Pos} (hg:Gl X "range") (hm:X.mg "range" = none) (ha:PA X [a,b,c] ta) (hs:starEach [a,b,c] X.env=[(false,eval a X.env),(false,eval b X.env),(false,eval c X.env)]:=by rfl) (hs2:starEach [b,c] X.env=[(false,eval b X.env),(false,eval c X.env)]:=by rfl) :
    PI X tg (.Call (.Name "range" p) [a,b,c] [] pos) (fG ta):=by
  intro pins s σ H R I h;refine Call_ (BZ I hg hm boot_range (kX (Ae (ha pos pins s σ H _ I h) fun us s1 ⟨vs,H1,I1,r1,q1⟩=>?_) (by rw [hs,hs2]) (by rw [hs2];rfl)));obtain ⟨i,j,e,⟨q1,q2,q3,q4⟩,q⟩:=q1;subst e;cases r1 with
  | cons r rr =>
    cases rr with
    | cons r' rr =>
      cases rr with
      | cons r'' rr =>
        cases rr;obtain ⟨t,rfl⟩:=r;obtain ⟨t',rfl⟩:=r';obtain ⟨t'',rfl⟩:=r'';refine call_range_3 (by decide) ?_ (Or.inl (PyProof.noPylong_small (by omega)));refine wpAny_pyIter_range (IsRange.new ..) (MD (by omega) (by omega) (by omega) (by omega)) ?_
        have I2:Inv X pins σ H1 { s1 with heap:=s1.heap.push { cls:=.type "range", data:=.fields #[.int i t,.int j t',.int (-1) t''] } }:=I1.kept (t':=s1.toks) fun b o e=>jm _ e
        refine ⟨(s1.heap.push { cls:=.type "range", data:=.fields #[.int i t,.int j t',.int (-1) t''] }).objs.size,[(s1.heap.push { cls:=.type "range", data:=.fields #[.int i t,.int j t',.int (-1) t''] }).objs.size],_,_,H1,rfl,
          I2.kept (t':=s1.toks) fun b o e=>jm _ e,Oz _ i (i - j).toNat,?_,fun b hb=>?_,q⟩
        · have e1:i+((0:Nat):Int) * (-1)=i:=by simp
          have e2:(((i - j).toNat:Nat):Int) - ((0:Nat):Int)=Builtin.Range.rangeSize i j (-1):=by rw [DU];split<;>omega
          show IsRangeIter _ _ (i+((0:Nat):Int) * (-1)) ((((i - j).toNat:Nat):Int) - ((0:Nat):Int)) (-1);rw [e1,e2];exact kD _ rfl
        · have e:b=(s1.heap.push { cls:=.type "range", data:=.fields #[.int i t,.int j t',.int (-1) t''] }).objs.size:=by simpa using hb
          subst e;exact I2.fpOk (ju _) (I2.hok.fresh (ju _))
end
section
end
section
variable {κ:Type} [DecidableEq κ]
noncomputable def Ez (kvs:List (κ×V)) (k:κ):Option V:=(kvs.find? fun kv=>decide (kv.1=k)).map (·.2)
noncomputable def FU (kvs:List (κ×V)) (k:κ) (v:V):List (κ×V):=
 if (kvs.any fun kv=>decide (kv.1=k))=true then kvs.map (fun kv=>if kv.1=k then (kv.1,v) else kv) else kvs++[(k,v)]
theorem DN {p:κ×V} {r:List (κ×V)} {k:κ} (e:p.1=k):Ez (p::r) k=some p.2:=by simp [Ez,lj,e]
theorem DO {p:κ×V} {r:List (κ×V)} {k:κ} (e:¬ p.1=k):Ez (p::r) k=Ez r k:=by simp [Ez,lj,e]
theorem Jz (k:κ):∀ kvs:List (κ×V),(kvs.any fun kv=>decide (kv.1=k))=(Ez kvs k).isSome
 | []=>rfl
 | p::r=>by
  rw [lS]
  by_cases e:p.1=k
  ·simp only [DN e,decide_eq_true e,mi,Option.isSome_some]
  ·rw [DO e,decide_eq_false e,Bool.false_or];exact Jz k r
theorem Fu (kvs:List (κ×V)) (k:κ) (v:V):(FU kvs k v).length<=kvs.length+1:=by
 unfold FU;split
 ·rw [jv];omega
 ·rw [kT,kG,kq];omega
theorem Hs.isSome_eq {o:Option V} {u:Option Value} (r:Hs o u):o.isSome=u.isSome:=by
 cases o with
 | none=>cases u with
  | none=>rfl
  | some _=>exact (show False from r).elim
 | some _=>cases u with
  | none=>exact (show False from r).elim
  | some _=>rfl
theorem KV.val {kvs:List (κ×V)} {vs:List (κ×Value)} (r:KV kvs vs) (k:κ):Hs (Ez kvs k) (valueAt vs k):=by
 unfold KV at r
 induction r with
 | nil=>exact True.intro
 | @cons p q ps qs h t ih =>
  obtain ⟨h1,h2⟩:=h
  by_cases e:p.1=k
  ·have e':q.1=k:=h1.symm.trans e;have b:valueAt (q::qs) k=some q.2:=by simp [valueAt,lj,e']
   rw [DN e,b];exact h2
  ·have e':¬ q.1=k:=fun z=>e (h1.trans z)
   have b:valueAt (q::qs) k=valueAt qs k:=by simp [valueAt,lj,e']
   rw [DO e,b];exact ih
theorem KV.any {kvs:List (κ×V)} {vs:List (κ×Value)} (r:KV kvs vs) (k:κ):(kvs.any fun kv=>decide (kv.1=k))=vs.any fun kv=>decide (kv.1=k):=by
 unfold KV at r
 induction r with
 | nil=>rfl
 | cons h t ih=>rw [lS,lS,ih,h.1]
theorem KV.repl {kvs:List (κ×V)} {vs:List (κ×Value)} (r:KV kvs vs) (k:κ) {y:V} {u:Value} (ry:RelV y u) :
    KV (kvs.map fun kv=>if kv.1=k then (kv.1,y) else kv) (vs.map fun kv=>if kv.1=k then (kv.1,u) else kv):=by
  unfold KV at r ⊢
  induction r with
  | nil=>exact .nil
  | @cons p q ps qs h t ih =>
    rw [jz,jz];refine .cons ?_ ih;obtain ⟨h1,h2⟩:=h
    by_cases e:p.1=k
    · rw [if_pos e,if_pos (h1.symm.trans e)];exact ⟨h1,ry⟩
    · rw [if_neg e,if_neg (fun z=>e (h1.trans z))];exact ⟨h1,h2⟩
theorem KV.put {kvs:List (κ×V)} {vs:List (κ×Value)} (r:KV kvs vs) (k:κ) {y:V} {u:Value} (ry:RelV y u):KV (FU kvs k y) (stored vs k u):=by
 unfold FU stored;rw [r.any k]
 by_cases e:(vs.any fun kv=>decide (kv.1=k))=true
 ·rw [if_pos e,if_pos e];exact r.repl k ry
 ·rw [if_neg e,if_neg e];exact Paired.snoc r ⟨rfl,ry⟩
theorem KV.length {kvs:List (κ×V)} {vs:List (κ×Value)} (r:KV kvs vs):kvs.length=vs.length:=Paired.length r
end
theorem OH {P:Program} {w:World} {k:BE} {u:Value} (r:RelV (kV k) u):(Ay P w).is k u=true:=by
 cases k with
 | inl i=>obtain ⟨t,e⟩:=(show ∃ t,u=Value.int i t from r);subst e;exact Ks P w i t
 | inr x=>obtain ⟨t,e⟩:=(show ∃ t,u=Value.str x t from r);subst e;exact Kr P w x t
theorem IS {P:Program} {w:World}:∀ {ks:List BE} {us:List Value},AD (ks.map kV) us->ItemsAre (Ay P w) ks us
 | [],_,r=>by rw [lZ] at r;cases r;exact .nil
 | k::ks,_,r=>by
  rw [jz] at r;cases r with
  | cons h t=>exact .cons (OH h) (IS t)
abbrev KT (H:Hp):List (List BE×V)->List (List BE×Addr×Value)->Prop:=Paired fun p q=>p.1=q.1/\H q.2.1=some (.tup (p.1.map kV))/\RelV p.2 q.2.2
theorem KT.val {H:Hp} {kvs:List (List BE×V)} {xs:List (List BE×Addr×Value)} (r:KT H kvs xs) (k:List BE):Hs (Ez kvs k) ((atKey xs k).map (·.2)):=by
 induction r with
 | nil=>exact True.intro
 | @cons p q ps qs h t ih =>
  obtain ⟨h1,_,h2⟩:=h
  by_cases e:p.1=k
  ·have e':q.1=k:=h1.symm.trans e;have b:atKey (q::qs) k=some q.2:=by simp [atKey,lj,e']
   rw [DN e,b];exact h2
  ·have e':¬ q.1=k:=fun z=>e (h1.trans z)
   have b:atKey (q::qs) k=atKey qs k:=by simp [atKey,lj,e']
   rw [DO e,b];exact ih
theorem KT.repl {H:Hp} {kvs:List (List BE×V)} {xs:List (List BE×Addr×Value)} (r:KT H kvs xs) (k:List BE) {y:V} {u:Value} (ry:RelV y u) :
    KT H (kvs.map fun kv=>if kv.1=k then (kv.1,y) else kv) (xs.map (putAt k u)):=by
  induction r with
  | nil=>exact .nil
  | @cons p q ps qs h t ih =>
    rw [jz,jz];refine .cons ?_ ih;obtain ⟨h1,h2,h3⟩:=h;unfold putAt
    by_cases e:p.1=k
    · rw [if_pos e,if_pos (h1.symm.trans e)];exact ⟨h1,h2,ry⟩
    · rw [if_neg e,if_neg (fun z=>e (h1.trans z))];exact ⟨h1,h2,h3⟩
theorem KT.put {H:Hp} {kvs:List (List BE×V)} {xs:List (List BE×Addr×Value)} (r:KT H kvs xs) (k:List BE) {b:Addr} {y:V} {u:Value} (hb:H b=some (.tup (k.map kV))) (ry:RelV y u) :
    KT H (FU kvs k y) (storedH xs k b u):=by
  have e:(kvs.any fun kv=>decide (kv.1=k))=(atKey xs k).isSome:=by
    rw [Jz,(r.val k).isSome_eq,Option.isSome_map]
  unfold FU storedH;rw [e]
  by_cases q:(atKey xs k).isSome=true
  · rw [if_pos q,if_pos q];exact r.repl k ry
  · rw [if_neg q,if_neg q];exact Paired.snoc r ⟨rfl,hb,ry⟩
theorem KT.keeps {H H':Hp} {kvs:List (List BE×V)} {xs:List (List BE×Addr×Value)} (r:KT H kvs xs) (ht:∀ b ys,H b=some (.tup ys)->H' b=some (.tup ys)):KT H' kvs xs:=
 Paired.mapP r fun _ _ z=>⟨z.1,ht _ _ z.2.1,z.2.2⟩
section
variable {P:Program} {w:World} {H:Hp} {h:Heap} {a:Addr}
theorem Xy {u:HO} (ok:ER P w H h) (e:Rd H a u):An P w H h a u:=e.ok ok
theorem LN {kvs:List (BE×V)} (ok:ER P w H h) (e:Rd H a (.dK kvs)):kvs.length<=sizeLine/\(a == sysModules)=false/\∃ vs,KV kvs vs/\h.DictOf (Ay P w) a vs:=
 show An P w H h a (.dK kvs) from Xy ok e
theorem fc {kvs:List (BE×V)} (ok:ER P w H h) (e:H a=some (.dK kvs)):kvs.length<=sizeLine/\(a == sysModules)=false/\∃ vs,KV kvs vs/\h.DictOf (Ay P w) a vs:=LN ok (.inl e)
theorem JT {ks:List BE} (ok:ER P w H h) (e:H a=some (.tup (ks.map kV))):(tupleKind (Ay P w)).is h ks a:=by
 obtain ⟨_,its,r,o,h1,h2,_,n,h3⟩:=(show An P w H h a (.tup (ks.map kV)) from ok a _ e);exact ⟨o,its.toArray,n,h1,h2,h3,by simpa using IS r⟩
theorem OW {kvs:List (List BE×V)} (ok:ER P w H h) (e:Rd H a (.dT kvs)):kvs.length<=sizeLine/\(a == sysModules)=false /\
    ∃ xs,KT H kvs xs/\h.DictOfH (tupleKind (Ay P w)) a xs:=by
  obtain ⟨z,y,xs,r,o,es,ep,h1,h2,h3,h4,h5⟩:=(show An P w H h a (.dT kvs) from Xy ok e);refine ⟨z,y,xs,r,o,es,ep,h1,h2,h3,h4,fun x hx=>?_,h5⟩;have all:∀ {l:List (List BE×V)} {m:List (List BE×Addr×Value)},KT H l m->∀ x∈m,(tupleKind (Ay P w)).is h x.1 x.2.1:=by
    intro l m q
    induction q with
    | nil=>intro x hx;exact nomatch hx
    | @cons p q ps qs hq t ih =>
      intro x hx;rcases kZ.mp hx with e | hx
      · subst e;exact JT ok (by rw [<- hq.1];exact hq.2.1)
      · exact ih x hx
  exact all r x hx
theorem fZ {kvs:List (List BE×V)} (ok:ER P w H h) (e:H a=some (.dT kvs)):kvs.length<=sizeLine/\(a == sysModules)=false /\
    ∃ xs,KT H kvs xs/\h.DictOfH (tupleKind (Ay P w)) a xs:=OW ok (.inl e)
end
def Jx (H:Hp) (a:Addr) (y:V) (r:Option V):Prop:=
 (∃ kvs k,Rd H a (.dK kvs)/\y=kV k/\r=Ez kvs k)\/∃ kvs k b,Rd H a (.dT kvs)/\y=.ref b/\H b=some (.tup (k.map kV))/\r=Ez kvs k
def Ur (H:Hp) (a:Addr) (y v:V) (H':Hp):Prop:=
 (∃ kvs k,H a=some (.dK kvs)/\y=kV k/\kvs.length < sizeLine/\H'=upd H a (.dK (FU kvs k v))) \/
 ∃ kvs k b,H a=some (.dT kvs)/\y=.ref b/\H b=some (.tup (k.map kV))/\kvs.length < sizeLine/\H'=upd H a (.dT (FU kvs k v))
theorem Jx.k {H:Hp} {a:Addr} {kvs:List (BE×V)} {k:BE} (e:H a=some (.dK kvs)):Jx H a (kV k) (Ez kvs k):=.inl ⟨kvs,k,.inl e,rfl,rfl⟩
theorem Ur.k {H:Hp} {a:Addr} {kvs:List (BE×V)} {k:BE} {v:V} (e:H a=some (.dK kvs)) (hl:kvs.length < sizeLine):Ur H a (kV k) v (upd H a (.dK (FU kvs k v))):=.inl ⟨kvs,k,e,rfl,hl,rfl⟩
section
variable {X:Cx} {pins:List (Addr×Obj)} {σ:St} {H:Hp} {s:Shared} {a:Addr} {y v:V} {u r:Value} {o:Option V} {A:Around} {E:Value->Shared->Prop}
theorem Inv.big (I:Inv X pins σ H s):sysModules < s.heap.objs.size:=by
 have h:mainGlobals < s.heap.objs.size:=(I.mod.glob.keeps I.bk).lt;exact Nat.lt_trans (by decide) h
theorem QT {Q:Value->Shared->Prop} (hu:A.units+1 < cLine) (I:Inv X pins σ H s) (g:Jx H a y (some v)) (ry:RelV y u) (h:∀ w' s',Inv X pins σ H s'->RelV v w'->Q w' s') :
    wpAny (model X.prog X.w) A (getItem (.ref a) u) Q E s:=by
  rcases g with ⟨kvs,k,e,ey,l⟩ | ⟨kvs,k,b,e,ey,eb,l⟩
  · subst ey;obtain ⟨z,hd,vs,rel,dd⟩:=LN I.hok e;obtain ⟨w',hw,rw'⟩:=Hs.some_of (v:=v) (o:=valueAt vs k) (by rw [l];exact rel.val k);exact wpAny_getItem_of (OH ry) dd.mapOf hw (h w' _ (I.tok _) rw')
  · subst ey;cases (show u=Value.ref b from ry);obtain ⟨z,hd,xs,rel,dd⟩:=OW I.hok e;obtain ⟨w',hw,rw'⟩:=Hs.some_of (v:=v) (o:=(atKey xs k).map (·.2)) (by rw [l];exact rel.val k);obtain ⟨p,hp,hp2⟩:=kd.mp hw;refine wpAny_getItem_heap (tupleKind_room_in1 hu) (JT I.hok eb) dd hp ?_;rw [hp2];exact h w' _ (I.tok _) rw'
theorem iN {Q:Value->Shared->Prop} (hu:A.units+1 < cLine) (I:Inv X pins σ H s) (g:Jx H a y o) (ry:RelV y u) (h:∀ s',Inv X pins σ H s'->Q (.bool o.isSome) s') :
    wpAny (model X.prog X.w) A (compareOp .In u (.ref a)) Q E s:=by
  rcases g with ⟨kvs,k,e,ey,l⟩ | ⟨kvs,k,b,e,ey,eb,l⟩
  · subst ey;obtain ⟨z,hd,vs,rel,dd⟩:=LN I.hok e;refine wpAny_in_of (OH ry) hd dd.mapOf ?_;rw [<- (rel.val k).isSome_eq,<- l];exact h _ (I.tok _)
  · subst ey;cases (show u=Value.ref b from ry);obtain ⟨z,hd,xs,rel,dd⟩:=OW I.hok e;refine wpAny_in_heap (tupleKind_room_in1 hu) (JT I.hok eb) hd dd ?_;have q:=(rel.val k).isSome_eq;rw [Option.isSome_map] at q;rw [<- q,<- l];exact h _ (I.tok _)
theorem OY {h':Heap} {t':Nat} {ob:HO} (I:Inv X pins σ H s) (mu:cY (H a)) (hs:Heap.SameBut a s.heap h') (he:∃ q,h'.get? a=some q) (new:An X.prog X.w (upd H a ob) h' a ob) :
    Inv X pins σ (upd H a ob) { s with heap:=h',toks:=t' }:=
  I.write (x:=a) (e:=a) mu (.inl rfl) (fun b q hb z=>(hs.2 b hb).trans z) he new
theorem bO {P:Program} {w:World} {H':Hp} {h':Heap} {kvs:List (BE×V)} {vs:List (BE×Value)} (z:kvs.length<=sizeLine) (hd:(a == sysModules)=false) (rel:KV kvs vs) (dd:h'.DictOf (Ay P w) a vs) :
    An P w H' h' a (.dK kvs):=⟨z,hd,vs,rel,dd⟩
theorem QS {H':Hp} {Q:Unit->Shared->Prop} (hu:A.units+1 < cLine) (I:Inv X pins σ H s) (g:Ur H a y v H') (ry:RelV y u) (rv:RelV v r) (h:∀ s',Inv X pins σ H' s'->Q () s') :
    wpAny (model X.prog X.w) A (setItem (.ref a) u r) Q E s:=by
  rcases g with ⟨kvs,k,e,ey,l,eH⟩ | ⟨kvs,k,b,e,ey,eb,l,eH⟩
  · subst ey eH;obtain ⟨z,hd,vs,rel,dd⟩:=fc I.hok e;have hz:vs.length<=sizeLine:=by rw [<- rel.length];exact z
    have hl:(FU kvs k v).length<=sizeLine:=by have:=Fu kvs k v;omega
    refine wpAny_setItem_pairs (hsz:=hz) (OH ry) dd fun h' dd' hs=>h _ ?_
    have he:∃ q,h'.get? a=some q:=let ⟨q,_,_,hq,_⟩:=dd';⟨q,hq⟩;exact OY I (by rw [e];exact True.intro) hs he (bO hl hd (rel.put k rv) dd')
  · subst ey eH;cases (show u=Value.ref b from ry);obtain ⟨z,hd,xs,rel,dd⟩:=fZ I.hok e;have hz:xs.length<=sizeLine:=by rw [<- Paired.length rel];exact z
    have hl:(FU kvs k v).length<=sizeLine:=by have:=Fu kvs k v;omega
    refine wpAny_setItem_heap (hsz:=hz) (tupleKind_room_in1 hu) (JT I.hok eb) dd fun h' dd' hs=>h _ ?_
    obtain ⟨q,es,ep,hq,h2,h3,h4,_,h5⟩:=dd';refine OY I (by rw [e];exact True.intro) hs ⟨q,hq⟩ ⟨hl,hd,_,(rel.put k eb rv).keeps fun c ys ec=>?_,q,es,ep,hq,h2,h3,h4,h5⟩;rw [AO (fA ec e (fun z=>nomatch z))];exact ec
end
section
variable {X:Cx} {pins:List (Addr×Obj)} {σ:St} {H:Hp} {s:Shared} {a:Addr} {kvs:List (BE×V)} {k:BE} {u:Value} {A:Around} {E:Value->Shared->Prop}
theorem ff {Q:Value->Shared->Prop} (I:Inv X pins σ H s) (e:Rd H a (.dK kvs)) (h:∀ t s',Inv X pins σ H s'->Q (.int kvs.length t) s'):wpAny (model X.prog X.w) A (call (.builtin "len") [.ref a]) Q E s:=by
 obtain ⟨z,hd,vs,rel,dd⟩:=LN I.hok e;refine call_len_dict hd dd (by rw [<- rel.length];rw [sizeLine_eq] at z;omega) ?_;rw [<- rel.length];exact h _ _ (I.tok _)
end
theorem LO {X:Cx} {pins:List (Addr×Obj)} {σ:St} {H:Hp} {s:Shared} {a:Addr} {y:V} {o:Option V} (I:Inv X pins σ H s) (g:Jx H a y o):s.TypeIs (.ref a) "dict" := by
 rcases g with ⟨kvs,k,e,_,_⟩ | ⟨kvs,k,b,e,_,_,_⟩
 ·obtain ⟨_,_,vs,_,dd⟩:=LN I.hok e;exact dd.typeIs
 ·obtain ⟨_,_,xs,_,dd⟩:=OW I.hok e;exact dd.typeIs
section
end
theorem Tp {P:Program} {w:World} {H:Hp} (h:Heap) (hb:sysModules < h.objs.size):An P w H (h.push { cls:=.type "dict", data:=.dict #[] }) h.objs.size (.dK []):=
 ⟨kg _,beq_eq_false_iff_ne.mpr (Ne.symm (kP hb)),[],.nil,Heap.DictOf.new h⟩
abbrev RZ:TE:=fun _ H Q=>∀ p,H p=none->Q (.ref p) (upd H p (.dK []))
section
variable {X:Cx} {pos:Pos}
theorem Kk:PE X (.Dict [] [] pos) RZ:=fun pins s σ H Q I h =>
 wpAny_Dict_empty ⟨.ref s.heap.objs.size,_,I.laid (a:=s.heap.objs.size) (o:=.dK []) (t':=s.toks) (fun _ _ q=>jm _ q) (ju _) (Tp s.heap I.big),rfl,h _ (I.hok.fresh (ju _))⟩
end
section
end
section
end
section
end
section
end
section
variable {X:Cx}
theorem Qc:BC X (.builtin "len") (fun xs H Q=>∃ a kvs,xs=[V.ref a]/\H a=some (.dK kvs)/\Q (.int kvs.length) H):=by
 intro pins s σ H xs us Q I r h;obtain ⟨a,kvs,rfl,ha,q⟩:=h;obtain ⟨u,rfl,ru⟩:=vals1 r;cases ru;exact ff I (.inl ha) fun t s' I'=>⟨.int kvs.length,H,I',⟨t,rfl⟩,q⟩
end
section
end
section
end
section
end
noncomputable abbrev gX:=List Int×T
def Sr (pl:List Int) (i:Nat):List T->List gX
 | []=>[]
 | k::ks=>(pl++[(i:Int)],k)::Sr pl (i+1) ks
def run:Nat->List gX->List gX
 | 0,_=>[]
 | _+1,[]=>[]
 | n+1,p::st=>p::run n (Sr p.1 0 p.2.kids++st)
def wk (t:T):List gX:=run t.size [([],t)]
mutual
noncomputable def T.dp:T->Nat
 | .leaf _ _=>0
 | .op _ m n=>max (m.dp+1) (max (n.dp+1) 0)
 | .many _ _ ts=>Mh ts
 | .lett _ a b=>max (a.dp+1) (max (b.dp+1) 0)
 | .loop _ n _ a b=>max (n.dp+1) (max (a.dp+1) (max (b.dp+1) 0))
 | .pick n ts=>max (n.dp+1) (Mh ts)
noncomputable def Mh:List T->Nat
 | []=>0
 | t::ts=>max (t.dp+1) (Mh ts)
end
section
end
section
end
section
end
section
end
section
end
section
end
noncomputable def jn (sep:List Nat):List (List Nat)->List Nat
 | []=>[]
 | x::ys=>x++(ys.flatMap fun y=>sep++y)
theorem cg (sep:List Nat):∀ ys:List (List Nat),Txt.join (tx sep) (ys.map tx)=tx (jn sep ys):=by
 intro ys;have h:Txt.join (tx sep) (ys.map tx)=Str.join (tx sep) (ys.map tx):=by simpa using join_plain_closes (tx sep) (ys.map tx)
 rw [h];have:∀ (x:List Nat) (ys:List (List Nat)),Str.join (tx sep) ((x::ys).map tx)=tx (x++(ys.flatMap fun y=>sep++y)):=by
  intro x ys
  induction ys generalizing x with
  | nil=>simp [Str.join]
  | cons y ys ih =>
   show tx x++tx sep++Str.join (tx sep) ((y::ys).map tx)=_;rw [ih y,Ls,Ls];simp
 cases ys with
 | nil=>rfl
 | cons x ys=>exact this x ys
theorem Ys (ys:List (List Nat)):((ys.map tx).map (·.length)).sum=(ys.map List.length).sum:=by
 rw [mF];congr 1
end L2
namespace R
open PySem L2
inductive Dv where
 | non | bl (b:Bool) | int (i:Int) | str (x:List Nat) | tup (xs:List Dv) | lst (xs:List Dv) | dct (ks:List BE) (xs:List Dv) | ref (k:Nat) | scr (ns:List Int) | ty (n:String) | mtp (ls:List (List Nat)) | dti (kvs:List (List Int×Int))
 deriving Inhabited
structure G where
 Z:Addr->Prop
 μ:List Addr
noncomputable abbrev Fp:=Addr->Prop
def Disj (P Q:Fp):Prop:=∀ a,P a->Q a->False
def nop:Fp:=fun _=>False
def Lk (g:G) (H:Hp) (o:Nat) (a:Addr) (vs:List V):Prop:=H a=some (.lst vs)/\(o=0->g.Z a)/\(o≠0->¬ g.Z a)
def Scr (K:W.Frag) (H:Hp) (a:Addr) (ns:List Int):Prop:=(∃ o,H a=some (.frz o (.lst (ns.map V.int)))) \/
    ∃ (o:Obj) (its:Array Value) (n:Nat),K.lookup a=some o/\o.cls=.type "list" /\ o.dict=none/\o.data=.seq its n/\its.size<=sizeLine/\AD (ns.map V.int) its.toList
theorem Scr.sq {K:W.Frag} {H:Hp} {a:Addr} {ns:List Int} (h:Scr K H a ns):CB K H a (ns.map V.int):=h.elim (fun h=>.inl (.inr h)) .inr
def Mtp (K:W.Frag) (a:Addr) (ls:List (List Nat)):Prop:=∃ (o:Obj) (its:Array Value) (n:Nat),K.lookup a=some o/\o.cls=.type "tuple" /\ o.data=.seq its n/\its.size<=sizeLine/\AD (ls.map fun l=>V.str (tx l)) its.toList
def encD (kvs:List (List Int×Int)):List (List BE×V):=kvs.map fun p=>(p.1.map Sum.inl,V.int p.2)
mutual
noncomputable def Rep (K:W.Frag) (g:G) (H:Hp):Nat->Dv->V->Fp->Prop
 | _,.non,v,P=>v=.non/\∀ a,¬ P a
 | _,.bl b,v,P=>v=.bl b/\∀ a,¬ P a
 | _,.int i,v,P=>v=.int i/\∀ a,¬ P a
 | _,.str l,v,P=>v=.str (tx l)/\∀ a,¬ P a
 | o,.tup ds,v,P=>∃ a vs,v=.ref a/\H a=some (.tup vs)/\Reps K g H (o - 1) ds vs P
 | o,.lst ds,v,P=>∃ a vs P',v=.ref a/\Lk g H o a vs/\Reps K g H (o - 1) ds vs P'/\¬ P' a/\∀ b,P b↔(o≠0/\b=a)\/P' b
 | o,.dct ks ds,v,P=>∃ a vs,v=.ref a/\H a=some (.dK (ks.zip vs))/\(o=0->g.Z a)/\(o≠0->¬ g.Z a)/\(ks.length=ds.length/\∃ R,Reps K g H 0 ds vs R)/\∀ b,P b↔(o≠0/\b=a)
 | _,.ref k,v,P=>(∃ a,g.μ[k]?=some a/\v=.ref a)/\∀ a,¬ P a
 | _,.scr ns,v,P=>(∃ a,v=.ref a/\Scr K H a ns)/\∀ a,¬ P a
 | _,.ty n,v,P=>v=.ty n/\∀ a,¬ P a
 | _,.mtp ls,v,P=>(∃ a,v=.ref a/\Mtp K a ls)/\∀ a,¬ P a
 | o,.dti kvs,v,P=>∃ a,v=.ref a/\H a=some (.dT (encD kvs))/\(o=0->g.Z a)/\(o≠0->¬ g.Z a)/\∀ b,P b↔(o≠0/\b=a)
noncomputable def Reps (K:W.Frag) (g:G) (H:Hp):Nat->List Dv->List V->Fp->Prop
 | _,[],vs,P=>vs=[]/\∀ a,¬ P a
 | o,d::ds,vs,P=>∃ v r P1 P2,vs=v::r/\Rep K g H o d v P1/\Reps K g H o ds r P2/\Disj P1 P2/\∀ a,P a↔P1 a\/P2 a
end
def Zd (g:G) (H:Hp):Prop:=∀ a,g.Z a->H a≠none
structure Step (g:G) (P:Fp) (H:Hp) (g':G) (P':Fp) (H':Hp):Prop where
 keep:∀ b o,H b=some o->¬ P b->H' b=some o
 dom:∀ b,H' b=none->H b=none
 zm:∀ a,g.Z a->g'.Z a
 zn:∀ a,g'.Z a->g.Z a\/P a\/H a=none
 mu:∃ r,g'.μ=g.μ++r
 nw:∀ a,P' a->P a\/H a=none
 zd:Zd g H->Zd g' H'
theorem Step.refl {g:G} {P:Fp} {H:Hp}:Step g P H g P H:=⟨fun _ _ h _=>h,fun _ h=>h,fun _ h=>h,fun _ h=>.inl h,⟨[],by simp⟩,fun _ h=>.inl h,fun h=>h⟩
theorem Step.trans {g g1 g2:G} {P P1 P2:Fp} {H H1 H2:Hp} (a:Step g P H g1 P1 H1) (b:Step g1 P1 H1 g2 P2 H2):Step g P H g2 P2 H2:=by
 refine ⟨fun c o h n=>?_,fun c h=>a.dom c (b.dom c h),fun c h=>b.zm c (a.zm c h),fun c h=>?_,?_,fun c h=>?_,fun z=>b.zd (a.zd z)⟩
 ·refine b.keep c o (a.keep c o h n) fun z=>?_
  rcases a.nw c z with z | z
  ·exact n z
  ·rw [h] at z;cases z
 ·rcases b.zn c h with z | z | z
  ·exact a.zn c z
  ·exact (a.nw c z).elim (fun q=>.inr (.inl q)) fun q=>.inr (.inr q)
  ·exact .inr (.inr (a.dom c z))
 ·obtain ⟨r1,e1⟩:=a.mu;obtain ⟨r2,e2⟩:=b.mu;exact ⟨r1++r2,by rw [e2,e1,kj]⟩
 ·rcases b.nw c h with z | z
  ·exact a.nw c z
  ·exact .inr (a.dom c z)
theorem Step.sub {g g':G} {P Q P' Q':Fp} {H H':Hp} (s:Step g P H g' P' H') (h1:∀ a,P a->Q a) (h2:∀ a,Q' a->P' a):Step g Q H g' Q' H':=
 ⟨fun b o h n=>s.keep b o h fun z=>n (h1 b z),s.dom,s.zm,fun a h=>(s.zn a h).elim .inl fun z=>.inr (z.elim (fun q=>.inl (h1 a q)) .inr),s.mu,fun a h=>(s.nw a (h2 a h)).elim (fun q=>.inl (h1 a q)) .inr,s.zd⟩
theorem Step.less {g g':G} {P P' Q':Fp} {H H':Hp} (s:Step g P H g' P' H') (h2:∀ a,Q' a->P' a):Step g P H g' Q' H':=s.sub (fun _ q=>q) h2
theorem Step.frame {g g':G} {P P' R:Fp} {H H':Hp} (s:Step g P H g' P' H'):Step g (fun a=>P a\/R a) H g' (fun a=>P' a\/R a) H':=
 ⟨fun b o h n=>s.keep b o h fun z=>n (.inl z),s.dom,s.zm,fun a h=>(s.zn a h).elim .inl fun z=>.inr (z.elim (fun q=>.inl (.inl q)) .inr),s.mu,fun a h=>h.elim (fun q=>(s.nw a q).elim (fun z=>.inl (.inl z)) .inr) fun q=>.inl (.inr q),s.zd⟩
theorem Step.same {g:G} {P:Fp} {H H':Hp} (s:NV H H'):Step g P H g P H':=
 have dm:∀ b,H' b=none->H b=none:=fun b h=>by
  cases e:H b with
  | none=>rfl
  | some o=>rw [s b o e] at h;cases h
 ⟨fun b o h _=>s b o h,dm,fun _ h=>h,fun _ h=>.inl h,⟨[],by simp⟩,fun _ h=>.inl h,fun z a h q=>z a h (dm a q)⟩
def FpOk (g:G) (H:Hp) (P:Fp):Prop:=∀ a,P a->cY (H a)/\¬ g.Z a
theorem FpOk.or {g:G} {H:Hp} {P Q:Fp} (h:FpOk g H P) (k:FpOk g H Q):FpOk g H fun a=>P a\/Q a:=fun a q=>q.elim (h a) (k a)
theorem FpOk.nop {g:G} {H:Hp}:FpOk g H nop:=fun _ z=>z.elim
theorem FpOk.new {g:G} {H:Hp} {P:Fp} (h:FpOk g H P) {a:Addr} (n:H a=none):¬ P a:=fun z=>by have:=(h a z).1;rw [n] at this;exact this
theorem nop_iff {P:Fp} (h:∀ a,¬ P a):P=nop:=funext fun a=>propext ⟨fun z=>(h a z).elim,fun z=>z.elim⟩
section
variable {K:W.Frag} {g g':G} {H H':Hp}
theorem Step.out {P P' R:Fp} (s:Step g P H g' P' H') (ok:FpOk g H R) (n:Disj R P):Disj R P':=fun a q z=>(s.nw a z).elim (fun z=>n a q z) fun z=>ok.new z q
theorem Lk.held {o:Nat} {a:Addr} {vs:List V} {P P':Fp} (h:Lk g H o a vs) (hn:o≠0->¬ P a) (s:Step g P H g' P' H') (ok:FpOk g H P):Lk g' H' o a vs:=by
 have np:¬ P a:=by
  by_cases z:o=0
  ·exact fun q=>(ok a q).2 (h.2.1 z)
  ·exact hn z
 refine ⟨s.keep _ _ h.1 np,fun z=>s.zm _ (h.2.1 z),fun z q=>?_⟩;rcases s.zn _ q with q | q | q
 ·exact h.2.2 z q
 ·exact np q
 ·rw [h.1] at q;cases q
mutual
theorem Rep.none0:∀ {d:Dv} {v:V} {R:Fp},Rep K g H 0 d v R->∀ a,¬ R a
 | .non,v,R,h | .bl _,v,R,h | .int _,v,R,h | .str _,v,R,h | .ty _,v,R,h | .mtp _,v,R,h | .ref _,v,R,h | .scr _,v,R,h=>by unfold Rep at h;exact h.2
 | .dti n,v,R,h=>by
  unfold Rep at h;obtain ⟨b,e,h1,h2,h3,h4⟩:=h;exact fun a q=>((h4 a).mp q).1 rfl
 | .tup ds,v,R,h=>by
  unfold Rep at h;obtain ⟨_,vs,e,h1,h2⟩:=h;exact Reps.none0 h2
 | .lst ds,v,R,h=>by
  unfold Rep at h;obtain ⟨b,vs,R',e,h1,h2,h3,h5⟩:=h;exact fun a q=>((h5 a).mp q).elim (fun z=>z.1 rfl) fun z=>Reps.none0 h2 a z
 | .dct ks ds,v,R,h=>by
  unfold Rep at h;obtain ⟨b,vs,e,h1,h2,h3,h5,h4⟩:=h;exact fun a q=>((h4 a).mp q).1 rfl
theorem Reps.none0:∀ {ds:List Dv} {vs:List V} {R:Fp},Reps K g H 0 ds vs R->∀ a,¬ R a
 | [],vs,R,h=>by unfold Reps at h;exact h.2
 | d::ds,vs,R,h=>by
  unfold Reps at h;obtain ⟨v,r,P1,P2,e,h1,h2,h3,h4⟩:=h;exact fun a q=>((h4 a).mp q).elim (fun z=>Rep.none0 h1 a z) fun z=>Reps.none0 h2 a z
end
mutual
theorem Rep.held {P P':Fp} (s:Step g P H g' P' H') (ok:FpOk g H P):∀ {o:Nat} {d:Dv} {v:V} {R:Fp},Rep K g H o d v R->Disj R P->Rep K g' H' o d v R
 | _,.non,v,R,h,_ | _,.bl _,v,R,h,_ | _,.int _,v,R,h,_ | _,.str _,v,R,h,_ | _,.ty _,v,R,h,_ | _,.mtp _,v,R,h,_=>by unfold Rep at h ⊢;exact h
 | o,.dti n,v,R,h,d=>by
  unfold Rep at h ⊢;obtain ⟨a,e,h1,h2,h3,h4⟩:=h;have hn:¬ P a:=fun z=>by
   by_cases q:o=0
   ·exact (ok a z).2 (h2 q)
   ·exact d a ((h4 a).mpr ⟨q,rfl⟩) z
  refine ⟨a,e,s.keep _ _ h1 hn,fun q=>s.zm _ (h2 q),fun q z=>?_,h4⟩;rcases s.zn _ z with z | z | z
  ·exact h3 q z
  ·exact hn z
  ·rw [h1] at z;cases z
 | o,.tup ds,v,R,h,n=>by
  unfold Rep at h ⊢;obtain ⟨a,vs,e,h1,h2⟩:=h;exact ⟨a,vs,e,s.keep _ _ h1 fun z=>(by have:=(ok a z).1;rw [h1] at this;exact this),Reps.held s ok h2 n⟩
 | o,.lst ds,v,R,h,n=>by
  unfold Rep at h ⊢;obtain ⟨a,vs,R',e,h1,h2,h3,h5⟩:=h;exact ⟨a,vs,R',e,h1.held (fun z q=>n a ((h5 a).mpr (.inl ⟨z,rfl⟩)) q) s ok,Reps.held s ok h2 fun b q z=>n b ((h5 b).mpr (.inr q)) z,h3,h5⟩
 | o,.dct ks ds,v,R,h,d=>by
  unfold Rep at h ⊢;obtain ⟨a,vs,e,h1,h2,h3,⟨h5,R',h6⟩,h4⟩:=h;have hn:¬ P a:=fun z=>by
   by_cases q:o=0
   ·exact (ok a z).2 (h2 q)
   ·exact d a ((h4 a).mpr ⟨q,rfl⟩) z
  refine ⟨a,vs,e,s.keep _ _ h1 hn,fun q=>s.zm _ (h2 q),fun q z=>?_,⟨h5,R',Reps.held s ok h6 fun b q z=>(Reps.none0 h6 b q).elim⟩,h4⟩;rcases s.zn _ z with z | z | z
  ·exact h3 q z
  ·exact hn z
  ·rw [h1] at z;cases z
 | _,.ref k,v,R,h,_=>by
  unfold Rep at h ⊢;obtain ⟨⟨a,h1,h2⟩,h3⟩:=h;obtain ⟨r,e⟩:=s.mu;refine ⟨⟨a,?_,h2⟩,h3⟩;rw [e,kK (jo.mp h1).1];exact h1
 | _,.scr ns,v,R,h,_=>by
  unfold Rep at h ⊢;obtain ⟨⟨a,h1,h2⟩,h3⟩:=h;refine ⟨⟨a,h1,?_⟩,h3⟩;rcases h2 with ⟨o,h2⟩ | h2
  ·exact .inl ⟨o,s.keep _ _ h2 fun z=>by have:=(ok a z).1;rw [h2] at this;exact this⟩
  ·exact .inr h2
theorem Reps.held {P P':Fp} (s:Step g P H g' P' H') (ok:FpOk g H P):∀ {o:Nat} {ds:List Dv} {vs:List V} {R:Fp},Reps K g H o ds vs R->Disj R P->Reps K g' H' o ds vs R
 | _,[],vs,R,h,_=>by unfold Reps at h ⊢;exact h
 | o,d::ds,vs,R,h,n=>by
  unfold Reps at h ⊢;obtain ⟨v,r,P1,P2,e,h1,h2,h3,h4⟩:=h;exact ⟨v,r,P1,P2,e,Rep.held s ok h1 fun a q z=>n a ((h4 a).mpr (.inl q)) z,Reps.held s ok h2 fun a q z=>n a ((h4 a).mpr (.inr q)) z,h3,h4⟩
end
mutual
theorem Rep.fpOk:∀ {o:Nat} {d:Dv} {v:V} {R:Fp},Rep K g H o d v R->FpOk g H R
 | _,.non,v,R,h,a,q | _,.bl _,v,R,h,a,q | _,.int _,v,R,h,a,q | _,.str _,v,R,h,a,q | _,.ty _,v,R,h,a,q | _,.mtp _,v,R,h,a,q | _,.ref _,v,R,h,a,q | _,.scr _,v,R,h,a,q=>by unfold Rep at h;exact (h.2 a q).elim
 | o,.dti n,v,R,h,a,q=>by
  unfold Rep at h;obtain ⟨b,e,h1,h2,h3,h4⟩:=h;obtain ⟨ho,rfl⟩:=(h4 a).mp q;exact ⟨by rw [h1];trivial,h3 ho⟩
 | o,.tup ds,v,R,h,a,q=>by
  unfold Rep at h;obtain ⟨_,vs,e,h1,h2⟩:=h;exact Reps.fpOk h2 a q
 | o,.lst ds,v,R,h,a,q=>by
  unfold Rep at h;obtain ⟨b,vs,R',e,h1,h2,h3,h5⟩:=h;rcases (h5 a).mp q with ⟨z,rfl⟩ | z
  ·exact ⟨by rw [h1.1];trivial,h1.2.2 z⟩
  ·exact Reps.fpOk h2 a z
 | o,.dct ks ds,v,R,h,a,q=>by
  unfold Rep at h;obtain ⟨b,vs,e,h1,h2,h3,h5,h4⟩:=h;obtain ⟨ho,rfl⟩:=(h4 a).mp q;exact ⟨by rw [h1];trivial,h3 ho⟩
theorem Reps.fpOk:∀ {o:Nat} {ds:List Dv} {vs:List V} {R:Fp},Reps K g H o ds vs R->FpOk g H R
 | _,[],vs,R,h,a,q=>by unfold Reps at h;exact (h.2 a q).elim
 | o,d::ds,vs,R,h,a,q=>by
  unfold Reps at h;obtain ⟨v,r,P1,P2,e,h1,h2,h3,h4⟩:=h;rcases (h4 a).mp q with z | z
  ·exact Rep.fpOk h1 a z
  ·exact Reps.fpOk h2 a z
end
theorem Rep.iff {o:Nat} {d:Dv} {v:V} {P Q:Fp} (h:Rep K g H o d v P) (e:∀ a,Q a↔P a):Rep K g H o d v Q:=by
 have:Q=P:=funext fun a=>propext (e a)
 rw [this];exact h
theorem Reps.iff {o:Nat} {d:List Dv} {v:List V} {P Q:Fp} (h:Reps K g H o d v P) (e:∀ a,Q a↔P a):Reps K g H o d v Q:=by
 have:Q=P:=funext fun a=>propext (e a)
 rw [this];exact h
theorem Rep.z {d:Dv} {v:V} {R:Fp} (h:Rep K g H 0 d v R):Rep K g H 0 d v nop:=by rw [<- nop_iff h.none0];exact h
theorem Reps.z {d:List Dv} {v:List V} {R:Fp} (h:Reps K g H 0 d v R):Reps K g H 0 d v nop:=by rw [<- nop_iff h.none0];exact h
def G.add (g:G) (P:Fp):G:={ g with Z:=fun a=>g.Z a\/P a }
mutual
theorem Rep.freeze {P:Fp}:∀ {o:Nat} {d:Dv} {v:V} {R:Fp},Rep K g H o d v R->(∀ a,R a->P a)->Rep K (g.add P) H 0 d v nop
 | _,.non,v,R,h,_ | _,.bl _,v,R,h,_ | _,.int _,v,R,h,_ | _,.str _,v,R,h,_ | _,.ty _,v,R,h,_ | _,.mtp _,v,R,h,_ | _,.ref _,v,R,h,_ | _,.scr _,v,R,h,_=>by unfold Rep at h ⊢;exact ⟨h.1,fun _ z=>z⟩
 | o,.dti n,v,R,h,s=>by
  unfold Rep at h ⊢;obtain ⟨a,e,h1,h2,h3,h4⟩:=h;refine ⟨a,e,h1,fun _=>?_,fun z=>(z rfl).elim,fun b=>⟨fun z=>z.elim,fun z=>(z.1 rfl).elim⟩⟩
  by_cases q:o=0
  ·exact .inl (h2 q)
  ·exact .inr (s a ((h4 a).mpr ⟨q,rfl⟩))
 | o,.tup ds,v,R,h,s=>by
  unfold Rep at h ⊢;obtain ⟨a,vs,e,h1,h2⟩:=h;exact ⟨a,vs,e,h1,Reps.freeze h2 s⟩
 | o,.lst ds,v,R,h,s=>by
  unfold Rep at h ⊢;obtain ⟨a,vs,R',e,h1,h2,h3,h5⟩:=h;refine ⟨a,vs,nop,e,⟨h1.1,fun _=>?_,fun z=>(z rfl).elim⟩,Reps.freeze h2 (fun b q=>s b ((h5 b).mpr (.inr q))),fun z=>z,fun b=>⟨fun z=>z.elim,fun z=>z.elim (fun q=>(q.1 rfl).elim) id⟩⟩
  by_cases q:o=0
  ·exact .inl (h1.2.1 q)
  ·exact .inr (s a ((h5 a).mpr (.inl ⟨q,rfl⟩)))
 | o,.dct ks ds,v,R,h,s=>by
  unfold Rep at h ⊢;obtain ⟨a,vs,e,h1,h2,h3,⟨h5,R',h6⟩,h4⟩:=h;refine ⟨a,vs,e,h1,fun _=>?_,fun z=>(z rfl).elim,⟨h5,nop,Reps.freeze h6 fun b q=>(Reps.none0 h6 b q).elim⟩,fun b=>⟨fun z=>z.elim,fun z=>(z.1 rfl).elim⟩⟩
  by_cases q:o=0
  ·exact .inl (h2 q)
  ·exact .inr (s a ((h4 a).mpr ⟨q,rfl⟩))
theorem Reps.freeze {P:Fp}:∀ {o:Nat} {ds:List Dv} {vs:List V} {R:Fp},Reps K g H o ds vs R->(∀ a,R a->P a)->Reps K (g.add P) H 0 ds vs nop
 | _,[],vs,R,h,_=>by unfold Reps at h ⊢;exact ⟨h.1,fun _ z=>z⟩
 | o,d::ds,vs,R,h,s=>by
  unfold Reps at h ⊢;obtain ⟨v,r,P1,P2,e,h1,h2,h3,h4⟩:=h;exact ⟨v,r,nop,nop,e,Rep.freeze h1 (fun a q=>s a ((h4 a).mpr (.inl q))),Reps.freeze h2 (fun a q=>s a ((h4 a).mpr (.inr q))),fun _ z=>z.elim,fun a=>⟨fun z=>z.elim,fun z=>z.elim id id⟩⟩
end
theorem Step.freeze {P:Fp} (ok:FpOk g H P):Step g P H (g.add P) nop H:=
 ⟨fun _ _ h _=>h,fun _ h=>h,fun _ h=>.inl h,fun a h=>h.elim .inl fun q=>.inr (.inl q),⟨[],by show g.μ=_;simp⟩,fun _ h=>h.elim,fun z a h q=>h.elim (fun h=>z a h q) fun h=>by have:=(ok a h).1;rw [q] at this;exact this⟩
theorem Reps.nil {o:Nat}:Reps K g H o [] [] nop:=by unfold Reps;exact ⟨rfl,fun _ z=>z⟩
theorem Reps.cons {o:Nat} {d:Dv} {v:V} {ds:List Dv} {vs:List V} {P1 P2:Fp} (h1:Rep K g H o d v P1) (h2:Reps K g H o ds vs P2) (n:Disj P1 P2):Reps K g H o (d::ds) (v::vs) fun a=>P1 a\/P2 a:=by
 unfold Reps;exact ⟨v,vs,P1,P2,rfl,h1,h2,n,fun _=>Iff.rfl⟩
theorem Reps.len:∀ {o:Nat} {ds:List Dv} {vs:List V} {R:Fp},Reps K g H o ds vs R->ds.length=vs.length
 | _,[],vs,R,h=>by unfold Reps at h;rw [h.1];rfl
 | _,d::ds,vs,R,h=>by
  unfold Reps at h;obtain ⟨v,r,P1,P2,rfl,h1,h2,_⟩:=h;simp [h2.len]
theorem Reps.get:∀ {o:Nat} {ds:List Dv} {vs:List V} {R:Fp} {i:Nat} {d:Dv},Reps K g H o ds vs R->ds[i]?=some d->∃ v P,vs[i]?=some v/\Rep K g H o d v P/\∀ a,P a->R a
 | _,[],_,_,_,_,_,e=>by simp at e
 | _,d::ds,vs,R,i,d',h,e=>by
  unfold Reps at h;obtain ⟨v,r,P1,P2,rfl,h1,h2,_,h4⟩:=h;cases i with
  | zero=>simp at e;subst e;exact ⟨v,P1,rfl,h1,fun a q=>(h4 a).mpr (.inl q)⟩
  | succ i =>
   obtain ⟨v',P,e',h',s⟩:=h2.get (i:=i) (by simpa using e);exact ⟨v',P,by simpa using e',h',fun a q=>(h4 a).mpr (.inr (s a q))⟩
theorem Reps.app:∀ {o:Nat} {ds es:List Dv} {vs us:List V} {P Q:Fp},Reps K g H o ds vs P->Reps K g H o es us Q->Disj P Q->Reps K g H o (ds++es) (vs++us) fun a=>P a\/Q a
 | _,[],es,vs,us,P,Q,h,k,_=>by
  unfold Reps at h;obtain ⟨rfl,n⟩:=h;exact k.iff fun a=>⟨fun z=>z.elim (fun q=>(n a q).elim) id,.inr⟩
 | _,d::ds,es,vs,us,P,Q,h,k,n=>by
  unfold Reps at h;obtain ⟨v,r,P1,P2,rfl,h1,h2,h3,h4⟩:=h;have t:=Reps.app h2 k fun a q z=>n a ((h4 a).mpr (.inr q)) z
  refine (Reps.cons h1 t fun a q z=>z.elim (fun z=>h3 a q z) fun z=>n a ((h4 a).mpr (.inl q)) z).iff fun a=>?_
  rw [h4 a,or_assoc]
end
noncomputable abbrev M:=List Dv
noncomputable abbrev Gm:=List (Option Nat)
noncomputable def M.at (m:M) (i:Nat):Dv:=m.getD i .non
structure REnv (K:W.Frag) (g:G) (H:Hp) (Γ:Gm) (ρ:List Dv) (σ:St) (F:Nat->Fp):Prop where
 l1:ρ.length=Γ.length
 l2:σ.length=Γ.length
 rep:∀ i o,Γ[i]?=some (some o)->∃ d v,ρ[i]?=some d/\σ[i]?=some (some v)/\Rep K g H o d v (F i)
 out:∀ i,(∀ o,Γ[i]?≠some (some o))->∀ a,¬ F i a
 dj:∀ i j,i≠j->Disj (F i) (F j)
def Rel (K:W.Frag) (g:G) (H:Hp) (Γ:Gm) (m:M) (σ:St) (P:Fp):Prop:=Zd g H/\∃ F,REnv K g H Γ m σ F/\∀ a,P a↔∃ i,F i a
theorem Dg {α:Type} {l:List α} {i j:Nat} {x y:α} (h:(l.set i x)[j]?=some y):(i=j/\y=x)\/(i≠j/\l[j]?=some y):=by
 by_cases e:i=j
 ·subst e;refine .inl ⟨rfl,?_⟩;rw [List.getElem?_set] at h;simp only [if_true] at h;split at h
  ·exact (Option.some.inj h).symm
  ·cases h
 ·rw [kQ e] at h;exact .inr ⟨e,h⟩
theorem Iu {m:M} {i:Nat} {d:Dv} (h:m[i]?=some d):m.at i=d:=by unfold M.at;rw [kL,h];rfl
section
variable {K:W.Frag} {g g':G} {H H':Hp} {Γ:Gm} {m:M} {σ:St} {P:Fp}
theorem Rel.zd (h:Rel K g H Γ m σ P):Zd g H:=h.1
theorem Rel.len (h:Rel K g H Γ m σ P):m.length=Γ.length/\σ.length=Γ.length:=let ⟨_,_,h1,_⟩:=h;⟨h1.l1,h1.l2⟩
theorem Rel.fpOk (h:Rel K g H Γ m σ P):FpOk g H P:=by
 obtain ⟨_,F,h1,h4⟩:=h;intro a q;obtain ⟨i,z⟩:=(h4 a).mp q
 by_cases e:∃ o,Γ[i]?=some (some o)
 ·obtain ⟨o,e⟩:=e;obtain ⟨d,v,_,_,r⟩:=h1.rep i o e;exact r.fpOk a z
 ·exact (h1.out i (fun o z=>e ⟨o,z⟩) a z).elim
theorem Rel.held {P' R:Fp} (s:Step g P H g' P' H') (ok:FpOk g H P) (h:Rel K g H Γ m σ R) (n:Disj R P):Rel K g' H' Γ m σ R:=by
 obtain ⟨zd,F,h1,h4⟩:=h;refine ⟨s.zd zd,F,⟨h1.l1,h1.l2,fun i o e=>?_,h1.out,h1.dj⟩,h4⟩;obtain ⟨d,v,e1,e2,r⟩:=h1.rep i o e;exact ⟨d,v,e1,e2,r.held s ok fun a q z=>n a ((h4 a).mpr ⟨i,q⟩) z⟩
theorem Rel.same (h:Rel K g H Γ m σ P) (s:NV H H'):Rel K g H' Γ m σ P:=h.held (Step.same (P:=nop) s) FpOk.nop fun _ _ z=>z
theorem Rel.see {i o:Nat} (h:Rel K g H Γ m σ P) (e:Γ[i]?=some (some o)):∃ v P1,σ[i]?=some (some v)/\Rep K g H o (m.at i) v P1/\∀ a,P1 a->P a:=by
 obtain ⟨_,F,h1,h4⟩:=h;obtain ⟨d,v,e1,e2,r⟩:=h1.rep i o e;exact ⟨v,F i,e2,by rw [Iu e1];exact r,fun a q=>(h4 a).mpr ⟨i,q⟩⟩
theorem Rel.agree {m2:M} (h:Rel K g H Γ m σ P) (hl:m2.length=m.length) (ha:∀ i o,Γ[i]?=some (some o)->m2.at i=m.at i):Rel K g H Γ m2 σ P:=by
 obtain ⟨zd,F,h1,h4⟩:=h;refine ⟨zd,F,⟨hl.trans h1.l1,h1.l2,fun i o e=>?_,h1.out,h1.dj⟩,h4⟩;obtain ⟨d,v,e1,e2,r⟩:=h1.rep i o e;have hi:i < m2.length:=by rw [hl];exact (jo.mp e1).1
 refine ⟨d,v,?_,e2,r⟩;have:=ha i o e;unfold M.at at this;rw [kL,kL,e1,jl hi] at this;rw [jl hi];exact congrArg some this
theorem Rel.drop (i:Nat) (d:Dv) (x:Option V) (h:Rel K g H Γ m σ P):∃ P2,Rel K g H (Γ.set i none) (m.set i d) (σ.set i x) P2/\∀ a,P2 a->P a:=by
 obtain ⟨zd,F,h1,h4⟩:=h;refine ⟨fun a=>∃ j,j≠i/\F j a,⟨zd,fun j a=>j≠i/\F j a,⟨by rw [kR,kR,h1.l1],by rw [kR,kR,h1.l2],fun j o e=>?_,fun j e a q=>?_,fun j k n a q z=>h1.dj j k n a q.2 z.2⟩,fun _=>Iff.rfl⟩,fun a ⟨j,_,q⟩=>(h4 a).mpr ⟨j,q⟩⟩
 ·rcases Dg e with ⟨_,z⟩ | ⟨n,e⟩
  ·cases z
  ·obtain ⟨d',v,e1,e2,r⟩:=h1.rep j o e;have eq:(fun a=>j≠i/\F j a)=F j:=funext fun a=>propext ⟨fun z=>z.2,fun z=>⟨fun q=>n q.symm,z⟩⟩
   exact ⟨d',v,by rw [kQ n];exact e1,by rw [kQ n];exact e2,by show Rep K g H o d' v (fun a=>j≠i/\F j a);rw [eq];exact r⟩
 ·refine h1.out j (fun o z=>e o ?_) a q.2;rw [kQ fun z=>q.1 z.symm];exact z
theorem Rel.fill {i o:Nat} {d:Dv} {v:V} {P1:Fp} (h:Rel K g H Γ m σ P) (e:Γ[i]?=some none) (hd:m[i]?=some d) (hv:σ[i]?=some (some v)) (r:Rep K g H o d v P1) (n:Disj P1 P):Rel K g H (Γ.set i (some o)) m σ fun a=>P1 a\/P a:=by
 obtain ⟨zd,F,h1,h4⟩:=h;have fi:∀ a,¬ F i a:=h1.out i fun o z=>by rw [e] at z;cases z
 have hi:i < Γ.length:=(jo.mp e).1;refine ⟨zd,fun j a=>if j=i then P1 a else F j a,⟨by rw [kR];exact h1.l1,by rw [kR];exact h1.l2,fun j o' e'=>?_,fun j e' a q=>?_,fun j k nn a q z=>?_⟩,fun a=>?_⟩
 ·rcases Dg e' with ⟨rfl,z⟩ | ⟨nn,e'⟩
  ·cases z;have eq:(fun a=>if i=i then P1 a else F i a)=P1:=funext fun a=>by rw [if_pos rfl]
   exact ⟨d,v,hd,hv,by show Rep K g H o d v fun a=>if i=i then P1 a else F i a;rw [eq];exact r⟩
  ·obtain ⟨d',v',e1,e2,r'⟩:=h1.rep j o' e';have eq:(fun a=>if j=i then P1 a else F j a)=F j:=funext fun a=>by rw [if_neg fun z=>nn z.symm]
   exact ⟨d',v',e1,e2,by show Rep K g H o' d' v' fun a=>if j=i then P1 a else F j a;rw [eq];exact r'⟩
 ·by_cases z:j=i
  ·subst z;exact e' o (kW hi)
  ·simp only [if_neg z] at q;exact h1.out j (fun o' z'=>e' o' (by rw [kQ fun w=>z w.symm];exact z')) a q
 ·by_cases zj:j=i
  ·by_cases zk:k=i
   ·exact nn (zj.trans zk.symm)
   ·simp only [if_pos zj,if_neg zk] at q z;exact n a q ((h4 a).mpr ⟨k,z⟩)
  ·by_cases zk:k=i
   ·simp only [if_neg zj,if_pos zk] at q z;exact n a z ((h4 a).mpr ⟨j,q⟩)
   ·simp only [if_neg zj,if_neg zk] at q z;exact h1.dj j k nn a q z
 ·show P1 a\/P a↔_;rw [h4 a];refine ⟨fun z=>?_,fun ⟨j,z⟩=>?_⟩
  ·rcases z with z | ⟨j,z⟩
   ·exact ⟨i,by simp only [if_true];exact z⟩
   ·have:j≠i:=fun w=>fi a (w▸z)
    exact ⟨j,by simp only [if_neg this];exact z⟩
  ·by_cases zj:j=i
   ·simp only [if_pos zj] at z;exact .inl z
   ·simp only [if_neg zj] at z;exact .inr ⟨j,z⟩
theorem DS {α:Type} {l:List α} {i:Nat} {x:α} (h:l[i]?=some x):l.set i x=l:=by
 apply List.ext_getElem?;intro j
 by_cases e:i=j
 ·subst e;rw [kW (jo.mp h).1,h]
 ·rw [kQ e]
theorem Rel.take {i o:Nat} (h:Rel K g H Γ m σ P) (e:Γ[i]?=some (some o)):∃ v P1 P2,σ[i]?=some (some v)/\m[i]?=some (m.at i)/\Rep K g H o (m.at i) v P1/\Rel K g H (Γ.set i none) m σ P2/\Disj P1 P2/\∀ a,P a↔P1 a\/P2 a:=by
 obtain ⟨zd,F,h1,h4⟩:=h;obtain ⟨d,v,e1,e2,r⟩:=h1.rep i o e;refine ⟨v,F i,fun a=>∃ j,j≠i/\F j a,e2,by rw [Iu e1];exact e1,by rw [Iu e1];exact r,⟨zd,fun j a=>j≠i/\F j a,⟨by rw [kR];exact h1.l1,by rw [kR];exact h1.l2,fun j o' e'=>?_,fun j e' a q=>?_,fun j k n a q z=>h1.dj j k n a q.2 z.2⟩,fun _=>Iff.rfl⟩,fun a q ⟨j,n,z⟩=>h1.dj i j (fun w=>n w.symm) a q z,fun a=>?_⟩
 ·rcases Dg e' with ⟨_,z⟩ | ⟨n,e'⟩
  ·cases z
  ·obtain ⟨d',v',e3,e4,r'⟩:=h1.rep j o' e';have eq:(fun a=>j≠i/\F j a)=F j:=funext fun a=>propext ⟨fun z=>z.2,fun z=>⟨fun q=>n q.symm,z⟩⟩
   exact ⟨d',v',e3,e4,by show Rep K g H o' d' v' (fun a=>j≠i/\F j a);rw [eq];exact r'⟩
 ·exact h1.out j (fun o' z=>e' o' (by rw [kQ fun w=>q.1 w.symm];exact z)) a q.2
 ·rw [h4 a];refine ⟨fun ⟨j,z⟩=>?_,fun z=>?_⟩
  ·by_cases zj:j=i
   ·exact .inl (zj▸z)
   ·exact .inr ⟨j,zj,z⟩
  ·rcases z with z | ⟨j,_,z⟩
   ·exact ⟨i,z⟩
   ·exact ⟨j,z⟩
theorem DR {α:Type} (l:List α) (i:Nat) (x y:α):(l.set i x).set i y=l.set i y:=mh ..
theorem Rel.setNew {Pv:Fp} {i o:Nat} {d:Dv} {v:V} (h:Rel K g H Γ m σ P) (hi:i < Γ.length) (hv:Rep K g H o d v Pv) (n:Disj Pv P) :
    ∃ P2,Rel K g H (Γ.set i (some o)) (m.set i d) (σ.set i (some v)) P2/\∀ a,P2 a->P a\/Pv a:=by
  obtain ⟨P2,h2,s⟩:=h.drop i d (some v);have l:=h.len;have:=h2.fill (i:=i) (kW hi) (kW (by omega)) (kW (by omega)) hv fun a q z=>n a q (s a z)
  rw [DR] at this;exact ⟨_,this,fun a q=>q.elim .inr fun q=>.inl (s a q)⟩
theorem Rel.putIn {P1:Fp} {i o:Nat} {d:Dv} {v:V} (h:Rel K g H (Γ.set i none) m σ P) (hi:i < Γ.length) (hv:σ[i]?=some (some v)) (r:Rep K g H o d v P1) (n:Disj P1 P):∃ P2,Rel K g H (Γ.set i (some o)) (m.set i d) σ P2/\∀ a,P2 a->P1 a\/P a:=by
 obtain ⟨P2,h2,s⟩:=h.drop i d (some v);rw [DS hv] at h2;have l:=h.len;rw [kR] at l;have h3:=h2.fill (i:=i) (by rw [DR];exact kW hi) (kW (by omega)) hv r fun a q z=>n a q (s a z)
 rw [DR,DR] at h3;exact ⟨_,h3,fun a q=>q.elim .inl fun q=>.inr (s a q)⟩
theorem Rel.freeze {i o:Nat} (h:Rel K g H Γ m σ P) (e:Γ[i]?=some (some o)):∃ g' P' v,Step g P H g' P' H/\Rel K g' H (Γ.set i (some 0)) m σ P'/\σ[i]?=some (some v)/\Rep K g' H 0 (m.at i) v nop:=by
 obtain ⟨v,P1,P2,ev,ed,r,r2,n,hP⟩:=h.take e;have st:Step g P1 H (g.add P1) nop H:=Step.freeze r.fpOk;have fr:Rep K (g.add P1) H 0 (m.at i) v nop:=r.freeze fun _ q=>q
 have r3:=r2.held st r.fpOk fun a q z=>n a z q
 have hi:i < Γ.length:=(jo.mp e).1;have r4:=r3.fill (i:=i) (kW hi) ed ev fr fun _ z=>z.elim
 rw [DR] at r4;refine ⟨_,_,v,?_,r4,ev,fr⟩;exact (st.frame (R:=P2)).sub (fun a q=>(hP a).mpr q) fun a q=>q.elim (fun z=>z.elim) .inr
def BY:Gm->Gm->Bool
 | [],[]=>true
 | none::a,_::b=>BY a b
 | some o::a,some o'::b=>(o == 0 || o == o') && BY a b
 | _,_=>false
theorem Dp:∀ {a b:Gm},BY a b=true->a.length=b.length
 | [],[],_=>rfl
 | none::a,_::b,h=>by unfold BY at h;simp [Dp h]
 | some o::a,some o'::b,h=>by unfold BY at h;simp [Dp (lH.mp h).2]
 | [],_::_,h=>by cases h
 | some _::_,none::_,h=>by cases h
 | some _::_,[],h=>by cases h
 | none::_,[],h=>by cases h
theorem Ek:∀ {a b:Gm} {i o:Nat},BY a b=true->a[i]?=some (some o)->∃ o',b[i]?=some (some o')/\(o=0\/o=o')
 | [],_,i,o,_,e=>by simp at e
 | none::a,x::b,i,o,h,e=>by
  unfold BY at h;cases i with
  | zero=>simp at e
  | succ i=>obtain ⟨o',e',z⟩:=Ek (i:=i) h (by simpa using e);exact ⟨o',by simpa using e',z⟩
 | some p::a,some p'::b,i,o,h,e=>by
  unfold BY at h;rw [jh] at h;cases i with
  | zero =>
   simp at e;subst e;refine ⟨p',rfl,?_⟩;have:=h.1;rw [mT,beq_iff_eq,beq_iff_eq] at this;exact this
  | succ i=>obtain ⟨o',e',z⟩:=Ek (i:=i) h.2 (by simpa using e);exact ⟨o',by simpa using e',z⟩
 | some _::_,none::_,_,_,h,_=>by cases h
 | some _::_,[],_,_,h,_=>by cases h
 | none::_,[],_,_,h,_=>by cases h
theorem Rel.weaken {Γ':Gm} (h:Rel K g H Γ m σ P) (e:BY Γ' Γ=true):∃ g' P',Step g P H g' P' H/\Rel K g' H Γ' m σ P':=by
 have ok:=h.fpOk;obtain ⟨zd,F,h1,h4⟩:=h
 let D:Fp:=fun a=>∃ i,Γ'[i]?=some (some 0)/\F i a
 have okD:FpOk g H D:=fun a ⟨i,_,q⟩=>ok a ((h4 a).mpr ⟨i,q⟩)
 have st:Step g D H (g.add D) nop H:=Step.freeze okD
 let F':Nat->Fp:=fun i a=>(∃ o,Γ'[i]?=some (some (o+1)))/\F i a
 refine ⟨g.add D,fun a=>∃ i,F' i a,?_,st.zd zd,F',⟨by rw [Dp e];exact h1.l1,by rw [Dp e];exact h1.l2,fun i o ei=>?_,fun i ei a q=>?_,fun i j n a q z=>h1.dj i j n a q.2 z.2⟩,fun _=>Iff.rfl⟩
 ·refine (st.frame (R:=fun a=>∃ i,F' i a)).sub (fun a q=>?_) fun a q=>.inr q
  rcases q with ⟨i,_,q⟩ | ⟨i,q⟩
  ·exact (h4 a).mpr ⟨i,q⟩
  ·exact (h4 a).mpr ⟨i,q.2⟩
 ·obtain ⟨o',eo,z⟩:=Ek e ei;obtain ⟨d,v,e1,e2,r⟩:=h1.rep i o' eo;refine ⟨d,v,e1,e2,?_⟩;cases o with
  | zero =>
   have eq:F' i=nop:=nop_iff fun a ⟨⟨o,w⟩,_⟩=>by rw [ei] at w;cases w
   rw [eq];exact r.freeze fun a q=>⟨i,ei,q⟩
  | succ o =>
   have eq:F' i=F i:=funext fun a=>propext ⟨fun w=>w.2,fun w=>⟨⟨o,ei⟩,w⟩⟩
   rcases z with z | z
   ·cases z
   ·subst z;rw [eq];refine r.held st okD fun a q ⟨j,ej,z⟩=>?_
    by_cases w:i=j
    ·subst w;rw [ei] at ej;cases ej
    ·exact h1.dj i j w a q z
 ·obtain ⟨⟨o,w⟩,_⟩:=q;exact ei _ w
end
theorem PE.imp {X:Cx} {e:Expr} {t t':TE} (h:PE X e t) (k:∀ σ H Q,t' σ H Q->t σ H Q):PE X e t':=fun pins s σ H Q I q=>h pins s σ H Q I (k σ H Q q)
theorem PT.imp {X:Cx} {e:Expr} {t t':TT} (h:PT X e t) (k:∀ σ H Q,t' σ H Q->t σ H Q):PT X e t':=fun pins s σ H Q I q=>h pins s σ H Q I (k σ H Q q)
theorem PW.imp {X:Cx} {e:Expr} {t t':TT} (h:PW X e t) (k:∀ σ H Q,t' σ H Q->t σ H Q):PW X e t':=fun wh pins s σ H Q I q=>h wh pins s σ H Q I (k σ H Q q)
theorem PS.imp {X:Cx} {e:Stmt} {t t':TS} (h:PS X e t) (k:∀ D σ H,t' D σ H->t D σ H):PS X e t':=fun pins s σ H D I q=>h pins s σ H D I (k D σ H q)
theorem DM.imp {X:Cx} {e:List Stmt} {t t':TS} (h:DM X e t) (k:∀ D σ H,t' D σ H->t D σ H):DM X e t':=fun pins s σ H D I q=>h pins s σ H D I (k D σ H q)
noncomputable abbrev Ev (α:Type):=(R:Type)->M->(α->M->Option R)->Option R
def Bd (js:List Nat) (m m':M):Prop:=m'.length=m.length/\∀ i,i∉js->m'.at i=m.at i
theorem Bd.refl {js:List Nat} {m:M}:Bd js m m:=⟨rfl,fun _ _=>rfl⟩
theorem Bd.trans {js ks:List Nat} {m m1 m2:M} (a:Bd js m m1) (b:Bd ks m1 m2):Bd (js++ks) m m2:=⟨b.1.trans a.1,fun i h=>(b.2 i fun z=>h (jw _ z)).trans (a.2 i fun z=>h (kH _ z))⟩
theorem Bd.set {m:M} {i:Nat} {d:Dv}:Bd [i] m (m.set i d):=⟨kR ..,fun j h=>by
 have n:i≠j:=fun z=>h (by rw [z];exact mK _)
 unfold M.at;rw [kL,kL,kQ n]⟩
theorem Bd.mono {js ks:List Nat} {m m1:M} (a:Bd js m m1) (h:∀ i∈js,i∈ks):Bd ks m m1:=⟨a.1,fun i n=>a.2 i fun z=>n (h i z)⟩
def tE (K:W.Frag) (Γ:Gm) (o:Nat) (Γ':Gm) (js:List Nat) (f:Ev Dv):TE:=fun σ H Q=>∃ g m P,Rel K g H Γ m σ P/\∃ (R:Type) (k:Dv->M->Option R) (r:R),f R m k=some r /\
 ∀ d m' g' P' Pv v H',k d m'=some r->Bd js m m'->Step g P H g' (fun a=>P' a\/Pv a) H'->Rep K g' H' o d v Pv->Rel K g' H' Γ' m' σ P'->Disj P' Pv->Q v H'
def tT (K:W.Frag) (Γ Γ':Gm) (js:List Nat) (f:Ev Bool):TT:=fun σ H Q=>∃ g m P,Rel K g H Γ m σ P/\∃ (R:Type) (k:Bool->M->Option R) (r:R),f R m k=some r /\
 ∀ b m' g' P' H',k b m'=some r->Bd js m m'->Step g P H g' P' H'->Rel K g' H' Γ' m' σ P'->Q b H'
inductive Ar:Type 1 where
 | rf (i:Nat)
 | ev (Γ Γ':Gm) (js:List Nat) (f:Ev Dv)
def FD (K:W.Frag):Ar->TE
 | .rf i=>FB i
 | .ev Γ Γ' js f=>tE K Γ 0 Γ' js f
def BP (K:W.Frag):List Ar->TA
 | []=>VF
 | a::as=>Xn (FD K a) (BP K as)
def AK:List Ar->Ev (List Dv)
 | [],_,m,k=>k [] m
 | .rf i::as,R,m,k=>AK as R m fun ds m1=>k (m1.at i::ds) m1
 | .ev _ _ _ f::as,R,m,k=>f R m fun d m1=>AK as R m1 fun ds m2=>k (d::ds) m2
def AA:Gm->List Ar->Gm->List Nat->Prop
 | Γ,[],Γ',js=>Γ'=Γ/\js=[]
 | Γ,.rf i::as,Γ',js=>(∃ o,Γ[i]?=some (some o))/\(∃ o,o<=1/\Γ'[i]?=some (some o))/\AA Γ as Γ' js
 | Γ,.ev Γ1 Γ2 js1 _::as,Γ',js=>Γ1=Γ/\∃ js2,js=js1++js2/\AA Γ2 as Γ' js2
def AL (K:W.Frag) (g:G) (H:Hp) (Γ:Gm) (m:M) (σ:St):List Ar->List Dv->List V->Prop
 | [],ds,vs=>ds=[]/\vs=[]
 | .rf i::as,ds,vs=>∃ v ds' vs',ds=m.at i::ds'/\vs=v::vs'/\σ[i]?=some (some v)/\(∃ o,o<=1/\Γ[i]?=some (some o))/\AL K g H Γ m σ as ds' vs'
 | .ev _ _ _ _::as,ds,vs=>∃ d v ds' vs',ds=d::ds'/\vs=v::vs'/\Rep K g H 0 d v nop/\AL K g H Γ m σ as ds' vs'
theorem AI {K:W.Frag} {σ:St}:∀ (as:List Ar) {g:G} {Γ Γ':Gm} {js:List Nat} {m:M} {P:Fp} {H:Hp} {R:Type} {k:List Dv->M->Option R} {r:R} {Q:List V->Hp->Prop},Rel K g H Γ m σ P->AA Γ as Γ' js->AK as R m k=some r ->
    (∀ ds m' g' P' vs H',k ds m'=some r->Bd js m m'->Step g P H g' P' H'->AL K g' H' Γ' m' σ as ds vs->Rel K g' H' Γ' m' σ P'->Q vs H')->BP K as σ H Q
  | [],g,Γ,Γ',js,m,P,H,R,k,r,Q,rl,c,e,q=>by
    unfold AA at c;obtain ⟨rfl,rfl⟩:=c;exact q [] m g P [] H e Bd.refl Step.refl (by unfold AL;exact ⟨rfl,rfl⟩) rl
  | .rf i::as,g,Γ,Γ',js,m,P,H,R,k,r,Q,rl,c,e,q=>by
    unfold AA at c;obtain ⟨⟨o,ho⟩,h2,c⟩:=c;obtain ⟨v,_,hv,_⟩:=rl.see ho;refine ⟨v,hv,AI as rl c e fun ds m' g' P' vs H' hk ag s ar r1=>q _ m' g' P' _ H' hk ag s ?_ r1⟩;unfold AL;exact ⟨v,ds,vs,rfl,rfl,hv,h2,ar⟩
  | .ev Γ1 Γ2 js1 f::as,g,Γ,Γ',js,m,P,H,R,k,r,Q,rl,c,e,q=>by
    unfold AA at c;obtain ⟨rfl,js2,rfl,c⟩:=c;refine ⟨g,m,P,rl,R,_,r,e,fun d m1 g1 P1 Pv v H1 hk ag s rv r1 n=>?_⟩;refine AI as r1 c hk fun ds m2 g2 P2 vs H2 hk2 ag2 s2 ar r2=>q _ m2 g2 P2 _ H2 hk2 (ag.trans ag2) ((s.less fun _ q=>.inl q).trans s2) ?_ r2
    unfold AL;exact ⟨d,v,ds,vs,rfl,rfl,rv.z.held s2 r1.fpOk fun _ z=>z.elim,ar⟩
def RA (K:W.Frag) (g:G) (H:Hp):List Dv->List V->Prop
 | [],vs=>vs=[]
 | d::ds,vs=>∃ v r o P,vs=v::r/\o<=1/\Rep K g H o d v P/\RA K g H ds r
def AW (K:W.Frag) (g:G) (H:Hp) (o:Nat) (d:Dv) (v:V) (H':Hp):Prop:=NV H H'/\∃ Pv,Rep K g H' o d v Pv/\∀ a,Pv a->H a=none
noncomputable abbrev Pr:=List Dv->Option Dv
abbrev Os:=List V->Hp->VK->Prop
def AG (K:W.Frag) (p:Pr) (o:Nat) (R:Os):Prop:=∀ g H ds vs d Q,Zd g H->RA K g H ds vs->p ds=some d->(∀ v H',AW K g H o d v H'->Q v H')->R vs H Q
def Cc (p:Pr) (fa:Ev (List Dv)):Ev Dv:=fun R m k=>fa R m fun ds m'=>(p ds).bind fun d=>k d m'
theorem bind_some'.{u,v} {α:Type u} {β:Type v} {x:Option α} {f:α->Option β} {b:β} (h:x.bind f=some b):∃ a,x=some a/\f a=some b:=mJ.mp h
section
variable {K:W.Frag} {g:G} {H H':Hp} {σ:St} {Γ Γ':Gm} {m:M} {P:Fp}
theorem AL.ra (r:Rel K g H Γ m σ P):∀ {as:List Ar} {ds:List Dv} {vs:List V},AL K g H Γ m σ as ds vs->RA K g H ds vs
 | [],ds,vs,h=>by unfold AL at h;obtain ⟨rfl,rfl⟩:=h;unfold RA;rfl
 | .ev _ _ _ f::as,ds,vs,h=>by
  unfold AL at h;obtain ⟨d,v,ds',vs',rfl,rfl,h1,h2⟩:=h;unfold RA;exact ⟨v,vs',0,nop,rfl,by decide,h1,AL.ra r h2⟩
 | .rf i::as,ds,vs,h=>by
  unfold AL at h;obtain ⟨v,ds',vs',rfl,rfl,h1,⟨o,hl,ho⟩,h3⟩:=h;obtain ⟨v',P1,e,k,_⟩:=r.see ho;rw [h1] at e;cases e;unfold RA;exact ⟨v,vs',o,P1,rfl,hl,k,AL.ra r h3⟩
theorem AW.go {g0:G} {P0:Fp} {H0:Hp} {o:Nat} {d:Dv} {v:V} (s:Step g0 P0 H0 g P H) (r:Rel K g H Γ m σ P) (n:AW K g H o d v H') :
    ∃ Pv,Step g0 P0 H0 g (fun a=>P a\/Pv a) H'/\Rep K g H' o d v Pv/\Rel K g H' Γ m σ P/\Disj P Pv:=by
  obtain ⟨sm,Pv,h1,h2⟩:=n;refine ⟨Pv,s.trans ⟨fun b o h _=>sm b o h,(Step.same (g:=g) (P:=nop) sm).dom,fun _ h=>h,fun _ h=>.inl h,⟨[],by simp⟩,fun a h=>h.elim .inl fun q=>.inr (h2 a q),(Step.same (g:=g) (P:=nop) sm).zd⟩,h1,r.same sm,fun a q z=>r.fpOk.new (h2 a z) q⟩
theorem BK {p:Pr} {o:Nat} {as:List Ar} {js:List Nat} {R:Os} (hp:AG K p o R) (c:AA Γ as Γ' js) {Q:VK} (h:tE K Γ o Γ' js (Cc p (AK as)) σ H Q):BP K as σ H fun vs H1=>R vs H1 Q:=by
 obtain ⟨g,m,P,r,R',k,res,e,q⟩:=h;refine AI as r c e fun ds m' g' P' vs H1 hk ag s ar r1=>?_
 obtain ⟨d,e1,e2⟩:=bind_some' hk;refine hp g' H1 ds vs d Q r1.zd (ar.ra r1) e1 fun v H2 nw=>?_
 obtain ⟨Pv,s2,h1,r2,n2⟩:=AW.go s r1 nw;exact q d m' g' P' Pv v H2 e2 ag s2 h1 r2 n2
end
def Ht (r:R2):Os:=fun vs H Q=>match vs with | [x,y]=>r x y H Q | _=>False
def cb (r:V->Hp->VK->Prop):Os:=fun vs H Q=>match vs with | [x]=>r x H Q | _=>False
def LF (d:Dv):Ev Dv:=fun _ m k=>k d m
def OP (i:Nat):Ev Dv:=fun _ m k=>k (m.at i) m
section
variable {X:Cx} {e:Expr} {Γ Γ':Gm} {js:List Nat} {o:Nat} {f:Ev Dv}
theorem cQ {v:V} {d:Dv} (h:PE X e (tC v)) (hd:∀ g H,Rep X.K g H o d v nop):PE X e (tE X.K Γ o Γ [] (LF d)):=PE.imp h fun σ H Q q=>by
 obtain ⟨g,m,P,r,R,k,res,e,q⟩:=q;exact q d m g P nop v H e Bd.refl (Step.refl.less fun _ q=>q.elim id False.elim) (hd g H) r fun _ _ z=>z
theorem dX {i:Nat} (h:PE X e (FB i)) {o:Nat} (hi:Γ[i]?=some (some o)):PE X e (tE X.K Γ 0 (Γ.set i (some 0)) [] (OP i)):=PE.imp h fun σ H Q q=>by
 obtain ⟨g,m,P,r,R,k,res,e,q⟩:=q;obtain ⟨g',P',v,s,r',ev,rv⟩:=r.freeze hi;exact ⟨v,ev,q _ m g' P' nop v H e Bd.refl (s.less fun _ q=>q.elim id False.elim) rv r' fun _ _ z=>z⟩
theorem dZ {i:Nat} (h:PE X e (FB i)) (hi:Γ[i]?=some (some o)):PE X e (tE X.K Γ o (Γ.set i none) [] (OP i)):=PE.imp h fun σ H Q q=>by
 obtain ⟨g,m,P,r,R,k,res,e,q⟩:=q;obtain ⟨v,P1,P2,ev,_,rv,r2,n,hP⟩:=r.take hi;exact ⟨v,ev,q _ m g P2 P1 v H e Bd.refl (Step.refl.less fun a q=>(hP a).mpr q.symm) rv r2 fun a q z=>n a z q⟩
theorem DA (h:PE X e (tE X.K Γ o Γ' js f)):PE X e (tE X.K Γ 0 Γ' js f):=PE.imp h fun σ H Q q=>by
 obtain ⟨g,m,P,r,R,k,res,e,q⟩:=q;refine ⟨g,m,P,r,R,k,res,e,fun d m' g' P' Pv v H' hk ag s rv r1 n=>?_⟩;have st:Step g' Pv H' (g'.add Pv) nop H':=Step.freeze rv.fpOk;refine q d m' (g'.add Pv) P' nop v H' hk ag (s.trans ?_) (rv.freeze fun _ q=>q) (r1.held st rv.fpOk n) fun _ _ z=>z
 exact (st.frame (R:=P')).sub (fun a q=>q.symm) fun a q=>q.elim .inr False.elim
end
def OQ (t:List Dv->Dv) (fa:Ev (List Dv)):Ev Dv:=fun R m k=>fa R m fun ds m'=>if ds.length<=1000000 then k (t ds) m' else none
noncomputable def evd:List Ar->Bool
 | []=>true
 | .ev _ _ _ _::as=>evd as
 | .rf _::_=>false
theorem AL.reps {K:W.Frag} {g:G} {H:Hp} {Γ:Gm} {m:M} {σ:St}:∀ {as:List Ar} {ds:List Dv} {vs:List V},evd as=true->AL K g H Γ m σ as ds vs->Reps K g H 0 ds vs nop
 | [],ds,vs,_,h=>by unfold AL at h;obtain ⟨rfl,rfl⟩:=h;exact Reps.nil
 | .ev _ _ _ f::as,ds,vs,e,h=>by
  unfold AL at h;obtain ⟨d,v,ds',vs',rfl,rfl,h1,h2⟩:=h;exact (Reps.cons h1 (AL.reps (by unfold evd at e;exact e) h2) fun _ z=>z.elim).iff fun a=>⟨fun z=>z.elim,fun z=>z.elim id id⟩
 | .rf i::as,ds,vs,e,h=>by unfold evd at e;cases e
section
variable {X:Cx} {es:List Expr} {Γ Γ':Gm} {js:List Nat} {as:List Ar} {pos:Pos}
theorem dY {x1} (hq:PA X es (BP X.K as)) (c:AA Γ as Γ' js) (he:evd as=true):PE X (.Tuple es x1 pos) (tE X.K Γ 1 Γ' js (OQ .tup (AK as))):=PE.imp (Zv hq) fun σ H Q q=>by
 obtain ⟨g,m,P,r,R,k,res,e,q⟩:=q;refine AI as r c e fun ds m' g' P' vs H1 hk ag s ar r1=>?_
 split at hk
 ·rename_i hz;have rp:=ar.reps he;refine ⟨by rw [<- rp.len];exact kM hz (by decide),fun p hp=>?_⟩;have sm:=DT hp (.tup vs);have st:=Step.same (g:=g') (P:=nop) sm;refine q _ m' g' P' nop (.ref p) _ hk ag ((s.trans (Step.same sm)).less fun _ q=>q.elim id False.elim) ?_ (r1.same sm) fun _ _ z=>z
  unfold Rep;exact ⟨p,vs,rfl,BS,rp.held st FpOk.nop fun _ _ z=>z⟩
 ·cases hk
theorem AW.lst {K:W.Frag} {g:G} {H:Hp} {ds:List Dv} {vs:List V} {p:Addr} (zd:Zd g H) (rp:Reps K g H 0 ds vs nop) (hp:H p=none):AW K g H 1 (.lst ds) (.ref p) (upd H p (.lst vs)):=by
 have sm:=DT hp (.lst vs);refine ⟨sm,fun b=>b=p,?_,fun a q=>q▸hp⟩;unfold Rep;exact ⟨p,vs,nop,rfl,⟨BS,(fun z=>by cases z),fun _ z=>zd p z hp⟩,rp.held (Step.same (g:=g) (P:=nop) sm) FpOk.nop fun _ _ z=>z,fun z=>z,fun b=>⟨fun z=>.inl ⟨by decide,z⟩,fun z=>z.elim (fun z=>z.2) False.elim⟩⟩
theorem da (hq:PA X es (BP X.K as)) (c:AA Γ as Γ' js) (he:evd as=true):PE X (.List es pos) (tE X.K Γ 1 Γ' js (OQ .lst (AK as))):=PE.imp (aA hq) fun σ H Q q=>by
 obtain ⟨g,m,P,r,R,k,res,e,q⟩:=q;refine AI as r c e fun ds m' g' P' vs H1 hk ag s ar r1=>?_
 split at hk
 ·rename_i hz;have rp:=ar.reps he;refine ⟨by rw [<- rp.len];exact kM hz (by decide),fun p hp=>?_⟩;obtain ⟨Pv,s2,h1,r2,n2⟩:=AW.go s r1 (AW.lst r1.zd rp hp);exact q _ m' g' P' Pv (.ref p) _ hk ag s2 h1 r2 n2
 ·cases hk
end
def EF:List Nat->Type
 | []=>Unit
 | [_]=>Dv
 | _::i::J=>Dv×EF (i::J)
noncomputable def AV:(J:List Nat)->M->EF J
 | [],_=>()
 | [i],m=>m.at i
 | i::j::J,m=>(m.at i,AV (j::J) m)
noncomputable def AZ:(J:List Nat)->M->EF J->M
 | [],m,_=>m
 | [i],m,d=>m.set i d
 | i::j::J,m,t=>AZ (j::J) (m.set i t.1) t.2
theorem set_at {m:M} {i:Nat} {d:Dv} (h:i < m.length):M.at (m.set i d) i=d:=Iu (kW h)
theorem Gs:∀ (J:List Nat) (m:M) (t:EF J),(AZ J m t).length=m.length
 | [],_,_=>rfl
 | [i],m,d=>kR ..
 | i::j::J,m,t=>by unfold AZ;rw [Gs];exact kR ..
theorem AQ:∀ (J:List Nat) (m:M) (t:EF J),Bd J m (AZ J m t)
 | [],_,_=>Bd.refl
 | [i],m,d=>Bd.set
 | i::j::J,m,t=>by
  unfold AZ;exact (Bd.set (i:=i)).trans (AQ (j::J) _ _)
theorem Nz:∀ (J:List Nat) (m m':M) (i:Nat),i < m.length->i∈J->M.at (AZ J m (AV J m')) i=m'.at i
 | [],_,_,_,_,h=>by cases h
 | [i],m,m',k,hk,h=>by
  have e:=kY.mp h;subst e;exact set_at hk
 | i::j::J,m,m',k,hk,h=>by
  show M.at (AZ (j::J) (m.set i (m'.at i)) (AV (j::J) m')) k=_
  by_cases z:k∈j::J
  ·exact Nz (j::J) _ m' k (by rw [kR];exact hk) z
  ·rw [(AQ (j::J) _ _).2 k z];rcases kZ.mp h with e | e
   ·subst e;exact set_at hk
   ·exact (z e).elim
def Av (Γ:Gm) (js:List Nat):List Nat:=(List.range Γ.length).filter fun i=>js.contains i && (Γ.getD i none).isSome
theorem BM {Γ:Gm} {js:List Nat} {i o:Nat} (h:Γ[i]?=some (some o)):i∈Av Γ js\/i∉js:=by
 by_cases e:i∈js
 ·refine .inl (lg.mpr ⟨lT.mpr (jo.mp h).1,?_⟩);rw [jh,jy,kL,h];exact ⟨e,rfl⟩
 ·exact .inr e
theorem Au {Γ:Gm} {js:List Nat} {i:Nat} (h:i∈Av Γ js):i∈js:=by
 have:=(lg.mp h).2;rw [jh,jy] at this;exact this.1
theorem Rel.join {K:W.Frag} {g:G} {H:Hp} {Γ:Gm} {m m':M} {σ:St} {P:Fp} {J js:List Nat} (r:Rel K g H Γ m' σ P) (ag:Bd js m m') (hj:∀ i o,Γ[i]?=some (some o)->i∈J\/i∉js):Rel K g H Γ (AZ J m (AV J m')) σ P:=by
 refine r.agree ((Gs ..).trans ag.1.symm) fun i o e=>?_
 have hi:i < m.length:=by rw [<- ag.1,r.len.1];exact (jo.mp e).1
 by_cases z:i∈J
 ·exact Nz J m m' i hi z
 ·rw [(AQ J m _).2 i z];exact (ag.2 i ((hj i o e).elim (fun q=>(z q).elim) id)).symm
def YX (p:List Dv->Option Bool) (fa:Ev (List Dv)):Ev Bool:=fun R m k=>fa R m fun ds m'=>(p ds).bind fun b=>k b m'
def Mn (f:Ev Bool):Ev Dv:=fun R m k=>f R m fun b m'=>k (.bl b) m'
def YV (f:Ev Bool):Ev Bool:=fun R m k=>f R m fun b m'=>k (!b) m'
def HM {α:Type} (c:Ev Bool) (f g:Ev α):Ev α:=fun R m k=>c R m fun b m1=>if b=true then f R m1 k else g R m1 k
def Jn (α:Type):List Nat->Type
 | []=>α
 | i::J=>α×EF (i::J)
def YG {α:Type}:(J:List Nat)->α->M->Jn α J
 | [],a,_=>a
 | i::J,a,m=>(a,AV (i::J) m)
def iu {α R:Type}:(J:List Nat)->M->Jn α J->(α->M->Option R)->Option R
 | [],m,a,k=>k a m
 | i::J,m,t,k=>k t.1 (AZ (i::J) m t.2)
theorem RL {α R:Type} (J:List Nat) (m m':M) (a:α) (k:α->M->Option R):iu J m (YG J a m') k=k a (AZ J m (AV J m')):=by cases J<;>rfl
def Ml {α:Type} (J:List Nat) (f:Ev α):Ev α:=fun R m k=>(f (Jn α J) m fun a m'=>some (YG J a m')).bind fun t=>iu J m t k
section
variable {K:W.Frag} {Γ Γ' Γ2 Γ3:Gm} {js js2 js3 J:List Nat} {σ:St} {H:Hp} {o:Nat}
theorem GN {f:Ev Dv} {Q:VK} (hj:∀ i o,Γ'[i]?=some (some o)->i∈J\/i∉js) (hs:∀ i∈J,i∈js) (h:tE K Γ o Γ' js (Ml J f) σ H Q):tE K Γ o Γ' js f σ H Q:=by
 obtain ⟨g,m,P,r,R,k,res,e,q⟩:=h;obtain ⟨t,e1,e2⟩:=bind_some' e;refine ⟨g,m,P,r,_,_,t,e1,fun d m' g' P' Pv v H' hk ag s rv r1 n=>?_⟩;cases hk;rw [RL] at e2;exact q d _ g' P' Pv v H' e2 ((AQ J m _).mono hs) s rv (r1.join ag hj) n
theorem OI {f:Ev Bool} {Q:Bool->Hp->Prop} (hj:∀ i o,Γ'[i]?=some (some o)->i∈J\/i∉js) (hs:∀ i∈J,i∈js) (h:tT K Γ Γ' js (Ml J f) σ H Q):tT K Γ Γ' js f σ H Q:=by
 obtain ⟨g,m,P,r,R,k,res,e,q⟩:=h;obtain ⟨t,e1,e2⟩:=bind_some' e;refine ⟨g,m,P,r,_,_,t,e1,fun d m' g' P' H' hk ag s r1=>?_⟩;cases hk;rw [RL] at e2;exact q d _ g' P' H' e2 ((AQ J m _).mono hs) s (r1.join ag hj)
theorem Na {f:Ev Bool} {Q:Bool->Hp->Prop} (hw:BY Γ2 Γ'=true) (hs:∀ i∈js,i∈js2) (h:tT K Γ Γ2 js2 f σ H Q):tT K Γ Γ' js f σ H Q:=by
 obtain ⟨g,m,P,r,R,k,res,e,q⟩:=h;refine ⟨g,m,P,r,R,k,res,e,fun b m' g' P' H' hk ag s r1=>?_⟩;obtain ⟨g2,P2,s2,r2⟩:=r1.weaken hw;exact q b m' g2 P2 H' hk (ag.mono hs) (s.trans s2) r2
theorem GI {f:Ev Dv} {Q:VK} (hw:BY Γ2 Γ'=true) (hs:∀ i∈js,i∈js2) (h:tE K Γ 0 Γ2 js2 f σ H Q):tE K Γ 0 Γ' js f σ H Q:=by
 obtain ⟨g,m,P,r,R,k,res,e,q⟩:=h;refine ⟨g,m,P,r,R,k,res,e,fun b m' g' P' Pv v H' hk ag s rv r1 n=>?_⟩;obtain ⟨g2,P2,s2,r2⟩:=r1.weaken hw;exact q b m' g2 P2 nop v H' hk (ag.mono hs) (((s.less fun _ q=>.inl q).trans s2).less fun _ q=>q.elim id False.elim) (rv.z.held s2 r1.fpOk fun _ z=>z.elim) r2 fun _ _ z=>z
theorem gG {p:List Dv->Option Bool} {as:List Ar} {r:Os} (hp:AG K (fun ds=>(p ds).map .bl) 0 r) (c:AA Γ as Γ' js) {Q:Bool->Hp->Prop} (h:tT K Γ Γ' js (YX p (AK as)) σ H Q):BP K as σ H fun vs H1=>r vs H1 fun x H'=>∃ k,x=.bl k/\Q k H':=by
 obtain ⟨g,m,P,rl,R',k,res,e,q⟩:=h;refine AI as rl c e fun ds m' g' P' vs H1 hk ag s ar r1=>?_
 obtain ⟨b,e1,e2⟩:=bind_some' hk;refine hp g' H1 ds vs (.bl b) _ r1.zd (ar.ra r1) (by show (p ds).map _=_;rw [e1];rfl) fun v H2 nw=>?_
 obtain ⟨Pv,s2,h1,r2,n2⟩:=AW.go s r1 nw;refine ⟨b,by unfold Rep at h1;exact h1.1,q b m' g' P' H2 e2 ag (s2.less fun _ q=>.inl q) r2⟩
theorem rep_bl {g:G} {o:Nat} {b:Bool} {v:V} {P:Fp} (h:Rep K g H o (.bl b) v P):v=.bl b:=by unfold Rep at h;exact h.1
theorem CM {g:G} {b:Bool}:Rep K g H o (.bl b) (.bl b) nop:=by unfold Rep;exact ⟨rfl,fun _ z=>z⟩
theorem RV {t u:Ev Bool} {Q:Bool->Hp->Prop} (h:tT K Γ Γ' (js++js2) (HM t u (fun R m k=>k false m)) σ H Q) (hw:BY Γ' Γ2=true):dI (tT K Γ Γ2 js t) (tT K Γ2 Γ' js2 u) σ H Q:=by
 obtain ⟨g,m,P,r,R,k,res,e,q⟩:=h;refine ⟨g,m,P,r,R,_,res,e,fun b m1 g1 P1 H1 hk ag s r1=>?_⟩;cases b with
 | true =>
  rw [if_pos rfl] at hk ⊢;exact ⟨g1,m1,P1,r1,R,k,res,hk,fun c m2 g2 P2 H2 hk2 ag2 s2 r2=>q c m2 g2 P2 H2 hk2 (ag.trans ag2) (s.trans s2) r2⟩
 | false =>
  rw [if_neg kI] at hk ⊢;obtain ⟨g2,P2,s2,r2⟩:=r1.weaken hw;exact q false m1 g2 P2 H1 hk (ag.mono fun _ z=>kH _ z) (s.trans s2) r2
theorem cu {t u:Ev Bool} {Q:Bool->Hp->Prop} (h:tT K Γ Γ' (js++js2) (HM t (fun R m k=>k true m) u) σ H Q) (hw:BY Γ' Γ2=true):jB (tT K Γ Γ2 js t) (tT K Γ2 Γ' js2 u) σ H Q:=by
 obtain ⟨g,m,P,r,R,k,res,e,q⟩:=h;refine ⟨g,m,P,r,R,_,res,e,fun b m1 g1 P1 H1 hk ag s r1=>?_⟩;cases b with
 | false =>
  rw [if_neg kI] at hk ⊢;exact ⟨g1,m1,P1,r1,R,k,res,hk,fun c m2 g2 P2 H2 hk2 ag2 s2 r2=>q c m2 g2 P2 H2 hk2 (ag.trans ag2) (s.trans s2) r2⟩
 | true =>
  rw [if_pos rfl] at hk ⊢;obtain ⟨g2,P2,s2,r2⟩:=r1.weaken hw;exact q true m1 g2 P2 H1 hk (ag.mono fun _ z=>kH _ z) (s.trans s2) r2
theorem Yz {t:Ev Bool} {Q:Bool->Hp->Prop} (h:tT K Γ Γ' js (YV t) σ H Q):cy (tT K Γ Γ' js t) σ H Q:=by
 obtain ⟨g,m,P,r,R,k,res,e,q⟩:=h;exact ⟨g,m,P,r,R,_,res,e,fun b m1 g1 P1 H1 hk ag s r1=>q (!b) m1 g1 P1 H1 hk ag s r1⟩
theorem dD {c:Ev Bool} {fa fb:Ev Dv} {Q:VK} (h:tE K Γ 0 Γ' (js++(js2++js3)) (HM c fa fb) σ H Q):jC (tT K Γ Γ2 js c) (tE K Γ2 0 Γ' js2 fa) (tE K Γ2 0 Γ' js3 fb) σ H Q:=by
 obtain ⟨g,m,P,r,R,k,res,e,q⟩:=h;refine ⟨g,m,P,r,R,_,res,e,fun b m1 g1 P1 H1 hk ag s r1=>?_⟩;cases b with
 | true =>
  rw [if_pos rfl] at hk ⊢;exact ⟨g1,m1,P1,r1,R,k,res,hk,fun d m2 g2 P2 Pv v H2 hk2 ag2 s2 rv r2 n=>q d m2 g2 P2 Pv v H2 hk2 ((ag.trans ag2).mono fun i z=>(kU.mp z).elim (fun z=>kH _ z) fun z=>jw _ (kH _ z)) (s.trans s2) rv r2 n⟩
 | false =>
  rw [if_neg kI] at hk ⊢;exact ⟨g1,m1,P1,r1,R,k,res,hk,fun d m2 g2 P2 Pv v H2 hk2 ag2 s2 rv r2 n=>q d m2 g2 P2 Pv v H2 hk2 ((ag.trans ag2).mono fun i z=>(kU.mp z).elim (fun z=>kH _ z) fun z=>jw _ (jw _ z)) (s.trans s2) rv r2 n⟩
end
structure Kt (R:Type) where
 nx:M->Option R
 rt:Dv->M->Option R
 bk:M->Option R
 ct:M->Option R
noncomputable abbrev Es:=(R:Type)->M->Kt R->Option R
def Io (io:List Nat) (σ σ':St):Prop:=∀ i∈io,σ'[i]?=σ[i]?
theorem Io.refl {io:List Nat} {σ:St}:Io io σ σ:=fun _ _=>rfl
theorem Io.trans {io:List Nat} {σ σ1 σ2:St} (a:Io io σ σ1) (b:Io io σ1 σ2):Io io σ σ2:=fun i h=>(b i h).trans (a i h)
theorem Io.set {io:List Nat} {σ:St} {i:Nat} {x:Option V} (h:i∉io):Io io σ (σ.set i x):=fun j hj=>kQ fun z=>h (by rw [z];exact hj)
structure Fr where
 io:List Nat
 Γr:Gm
 ro:Nat
structure AcS (K:W.Frag) (F:Fr) (Γl:Option Gm) (g:G) (P:Fp) (H:Hp) (σ:St) (D:Ends) (Γn:Option Gm) (js:List Nat) (m:M) {R:Type} (k:Kt R) (r:R):Prop where
 nx:∀ Γ' m' g' P' σ' H',Γn=some Γ'->k.nx m'=some r->Bd js m m'->Step g P H g' P' H'->Io F.io σ σ'->Rel K g' H' Γ' m' σ' P'->D.nx σ' H'
 rt:∀ d m' g' P' Pv σ' v H',k.rt d m'=some r->Bd js m m'->Step g P H g' (fun a=>P' a\/Pv a) H'->Io F.io σ σ'->Rep K g' H' F.ro d v Pv->Rel K g' H' F.Γr m' σ' P'->Disj P' Pv->D.rt v H'
 bk:∀ Γ' m' g' P' σ' H',Γl=some Γ'->k.bk m'=some r->Bd js m m'->Step g P H g' P' H'->Io F.io σ σ'->Rel K g' H' Γ' m' σ' P'->D.bk σ' H'
 ct:∀ Γ' m' g' P' σ' H',Γl=some Γ'->k.ct m'=some r->Bd js m m'->Step g P H g' P' H'->Io F.io σ σ'->Rel K g' H' Γ' m' σ' P'->D.ct σ' H'
def tS (K:W.Frag) (F:Fr) (Γl:Option Gm) (Γ:Gm) (Γn:Option Gm) (js:List Nat) (f:Es):TS:=fun D σ H=>∃ g m P,Rel K g H Γ m σ P/\∃ (R:Type) (k:Kt R) (r:R),f R m k=some r/\AcS K F Γl g P H σ D Γn js m k r
theorem AcS.later {K:W.Frag} {F:Fr} {Γl Γn:Option Gm} {g g1:G} {P P1:Fp} {H H1:Hp} {σ σ1:St} {D:Ends} {js ks:List Nat} {m m1:M} {R:Type} {k:Kt R} {r:R} (s:Step g P H g1 P1 H1) (i:Io F.io σ σ1) (ag:Bd js m m1) (h:AcS K F Γl g P H σ D Γn (js++ks) m k r):AcS K F Γl g1 P1 H1 σ1 D Γn ks m1 k r:=
  ⟨fun Γ' m' g' P' σ' H' e hk a s' i' r'=>h.nx Γ' m' g' P' σ' H' e hk (ag.trans a) (s.trans s') (i.trans i') r',
   fun d m' g' P' Pv σ' v H' hk a s' i' rv r' n=>h.rt d m' g' P' Pv σ' v H' hk (ag.trans a) (s.trans s') (i.trans i') rv r' n,
   fun Γ' m' g' P' σ' H' e hk a s' i' r'=>h.bk Γ' m' g' P' σ' H' e hk (ag.trans a) (s.trans s') (i.trans i') r',
   fun Γ' m' g' P' σ' H' e hk a s' i' r'=>h.ct Γ' m' g' P' σ' H' e hk (ag.trans a) (s.trans s') (i.trans i') r'⟩
def HL:Es:=fun _ m k=>k.nx m
def fR (f g:Es):Es:=fun R m k=>f R m { k with nx:=fun m1=>g R m1 k }
def LG (c:Ev Bool) (f g:Es):Es:=fun R m k=>c R m fun b m1=>if b=true then f R m1 k else g R m1 k
def YT (f:Ev Dv):Es:=fun R m k=>f R m k.rt
def Ta (f:Ev Dv):Es:=fun R m k=>f R m fun _ m1=>k.nx m1
section
variable {X:Cx} {F:Fr} {Γl Γn Γn2:Option Gm} {Γ Γ' Γ2:Gm} {js js2 js3 J:List Nat} {s:Stmt} {ss rest a b:List Stmt} {e c:Expr} {pos:Pos} {f f2:Es} {fe:Ev Dv} {t:Ev Bool} {o:Nat}
theorem Gf {K:W.Frag} {D:Ends} {σ:St} {H:Hp} (h:tS K F Γl Γ (some Γ) [] HL D σ H):D.nx σ H:=by
 obtain ⟨g,m,P,r,R,k,res,e,q⟩:=h;exact q.nx Γ m g P σ H rfl e Bd.refl Step.refl Io.refl r
theorem dR:DM X [] (tS X.K F Γl Γ (some Γ) [] HL):=DM.imp Vg fun D σ H h=>Gf h
theorem ZR:PS X (.Pass pos) (tS X.K F Γl Γ (some Γ) [] HL):=PS.imp Vh fun D σ H h=>Gf h
theorem dS {x j pos'}:PS X (.Expr (.Constant (.str x) j pos) pos') (tS X.K F Γl Γ (some Γ) [] HL):=PS.imp Zi fun D σ H h=>Gf h
theorem ZW (h1:PS X s (tS X.K F Γl Γ (some Γ2) js f)) (h2:DM X rest (tS X.K F Γl Γ2 Γn js2 f2)):DM X (s::rest) (tS X.K F Γl Γ Γn (js++js2) (fR f f2)):=DM.imp (Kd h1 h2) fun D σ H h=>by
 obtain ⟨g,m,P,r,R,k,res,e,q⟩:=h;refine ⟨g,m,P,r,R,_,res,e,⟨fun Γ' m' g' P' σ' H' e hk ag s' i' r'=>?_,fun d m' g' P' Pv σ' v H' hk ag=>q.rt d m' g' P' Pv σ' v H' hk (ag.mono fun _ z=>kH _ z),fun Γ' m' g' P' σ' H' e hk ag=>q.bk Γ' m' g' P' σ' H' e hk (ag.mono fun _ z=>kH _ z),fun Γ' m' g' P' σ' H' e hk ag=>q.ct Γ' m' g' P' σ' H' e hk (ag.mono fun _ z=>kH _ z)⟩⟩;cases e;exact ⟨g',m',P',r',R,k,res,hk,q.later s' i' ag⟩
theorem ZS (h1:PS X s (tS X.K F Γl Γ none js f)):DM X (s::rest) (tS X.K F Γl Γ none js f):=DM.imp (Kd h1 (u:=fun _ _ _=>False) fun _ _ _ _ _ _ z=>z.elim) fun D σ H h=>by
 obtain ⟨g,m,P,r,R,k,res,e,q⟩:=h;exact ⟨g,m,P,r,R,k,res,e,(fun _ _ _ _ _ _ e=>by cases e),q.rt,q.bk,q.ct⟩
theorem dQ (h1:PS X s (tS X.K F Γl Γ Γn js f)):DM X [s] (tS X.K F Γl Γ Γn js f):=Vf h1
theorem dO (hq:PE X e (tE X.K Γ F.ro F.Γr js fe)):PS X (.Return (some e) pos) (tS X.K F Γl Γ none js (YT fe)):=PS.imp (Zg hq) fun D σ H h=>by
 obtain ⟨g,m,P,r,R,k,res,e,q⟩:=h;exact ⟨g,m,P,r,R,_,res,e,fun d m' g' P' Pv v H' hk ag s rv r1 n=>q.rt d m' g' P' Pv σ v H' hk ag s Io.refl rv r1 n⟩
theorem ZV (hq:PE X e (tE X.K Γ o Γ' js fe)) (hs:swapsWith e none pos.line X.env=pure false):PS X (.Expr e pos) (tS X.K F Γl Γ (some Γ') js (Ta fe)):=PS.imp (Vi hq hs) fun D σ H h=>by
 obtain ⟨g,m,P,r,R,k,res,e,q⟩:=h;exact ⟨g,m,P,r,R,_,res,e,fun d m' g' P' Pv v H' hk ag s rv r1 n=>q.nx Γ' m' g' P' σ H' rfl hk ag (s.less fun _ q=>.inl q) Io.refl r1⟩
theorem gy (hc:PT X c (tT X.K Γ Γ2 js t)) (ha:DM X a (tS X.K F Γl Γ2 Γn js2 f)) (hb:DM X b (tS X.K F Γl Γ2 Γn js3 f2)):PS X (.If c a b pos) (tS X.K F Γl Γ Γn (js++(js2++js3)) (LG t f f2)):=PS.imp (eK hc ha hb) fun D σ H h=>by
 obtain ⟨g,m,P,r,R,k,res,e,q⟩:=h;refine ⟨g,m,P,r,R,_,res,e,fun b m1 g1 P1 H1 hk ag s r1=>?_⟩;have q2:=q.later s Io.refl ag;have mo:∀ (ks:List Nat),(∀ i∈ks,i∈js2++js3)->AcS X.K F Γl g1 P1 H1 σ D Γn ks m1 k res:=fun ks hks =>
  ⟨fun Γ' m' g' P' σ' H' e hk a=>q2.nx Γ' m' g' P' σ' H' e hk (a.mono hks),fun d m' g' P' Pv σ' v H' hk a=>q2.rt d m' g' P' Pv σ' v H' hk (a.mono hks),fun Γ' m' g' P' σ' H' e hk a=>q2.bk Γ' m' g' P' σ' H' e hk (a.mono hks),fun Γ' m' g' P' σ' H' e hk a=>q2.ct Γ' m' g' P' σ' H' e hk (a.mono hks)⟩
 cases b with
 | true=>rw [if_pos rfl] at hk;show (if true=true then _ else _);rw [if_pos rfl];exact ⟨g1,m1,P1,r1,R,k,res,hk,mo js2 fun _ z=>kH _ z⟩
 | false=>rw [if_neg kI] at hk;show (if false=true then _ else _);rw [if_neg kI];exact ⟨g1,m1,P1,r1,R,k,res,hk,mo js3 fun _ z=>jw _ z⟩
def JQ:Option Gm->Option Gm->Bool
 | some a,some b=>BY a b
 | _,none=>true
 | none,some _=>false
theorem Rv (h:DM X ss (tS X.K F Γl Γ Γn js f)) (hw:JQ Γn2 Γn=true):DM X ss (tS X.K F Γl Γ Γn2 js f):=DM.imp h fun D σ H h=>by
 obtain ⟨g,m,P,r,R,k,res,e,q⟩:=h;refine ⟨g,m,P,r,R,k,res,e,fun Γ' m' g' P' σ' H' e hk ag s' i' r'=>?_,q.rt,q.bk,q.ct⟩;subst e;cases Γn2 with
 | none=>cases hw
 | some Γ3 =>
  obtain ⟨g2,P2,s2,r2⟩:=r'.weaken (by unfold JQ at hw;exact hw);exact q.nx Γ3 m' g2 P2 σ' H' rfl hk ag (s'.trans s2) i' r2
def fU (J:List Nat) (f:Es):Es:=fun R m k=>(f (EF J) m ⟨fun m'=>some (AV J m'),fun _ _=>none,fun _=>none,fun _=>none⟩).bind fun t=>k.nx (AZ J m t)
theorem aj {K:W.Frag} {D:Ends} {σ:St} {H:Hp} (hj:∀ i o,Γ'[i]?=some (some o)->i∈J\/i∉js) (hs:∀ i∈J,i∈js) (h:tS K F Γl Γ (some Γ') js (fU J f) D σ H):tS K F Γl Γ (some Γ') js f D σ H:=by
 obtain ⟨g,m,P,r,R,k,res,e,q⟩:=h;obtain ⟨t,e1,e2⟩:=bind_some' e;refine ⟨g,m,P,r,_,_,t,e1,⟨fun Γ2 m' g' P' σ' H' e hk ag s' i' r'=>?_,(fun _ _ _ _ _ _ _ _ hk=>by cases hk),(fun _ _ _ _ _ _ _ hk=>by cases hk),fun _ _ _ _ _ _ _ hk=>by cases hk⟩⟩;cases e;cases hk;exact q.nx Γ' _ g' P' σ' H' rfl e2 ((AQ J m _).mono hs) s' i' (r'.join ag hj)
end
noncomputable abbrev Tg:=(R:Type)->Dv->M->(M->Option R)->Option R
def Ag (js:List Nat) (σ σ':St):Prop:=σ'.length=σ.length/\∀ i,i∉js->σ'[i]?=σ[i]?
theorem Ag.io {js io:List Nat} {σ σ':St} (h:Ag js σ σ') (d:∀ i∈io,i∉js):Io io σ σ':=fun i hi=>h.2 i (d i hi)
theorem Ag.trans {js ks:List Nat} {σ σ1 σ2:St} (a:Ag js σ σ1) (b:Ag ks σ1 σ2):Ag (js++ks) σ σ2:=⟨b.1.trans a.1,fun i h=>(b.2 i fun z=>h (jw _ z)).trans (a.2 i fun z=>h (kH _ z))⟩
theorem Ag.set {σ:St} {i:Nat} {x:Option V}:Ag [i] σ (σ.set i x):=⟨kR ..,fun j h=>kQ fun z=>h (by rw [z];exact mK _)⟩
def NT (K:W.Frag) (Γ Γ':Gm) (js:List Nat) (tg:TG) (f:Tg):Prop:=∀ (g:G) (m:M) (P:Fp) (d:Dv) (v:V) (σ:St) (H:Hp) (R:Type) (k:M->Option R) (r:R) (Q:St->Hp->Prop),Rel K g H Γ m σ P->Rep K g H 0 d v nop->f R d m k=some r ->
 (∀ m' P' σ',k m'=some r->Bd js m m'->(∀ a,P' a->P a)->Ag js σ σ'->Rel K g H Γ' m' σ' P'->Q σ' H)->tg v σ H Q
def cq (i:Nat):Tg:=fun _ d m k=>k (m.set i d)
theorem VD {K:W.Frag} {Γ:Gm} {i:Nat} (hi:i < Γ.length):NT K Γ (Γ.set i (some 0)) [i] (DX i) (cq i):=fun g m P d v σ H R k r Q rl rv e q=>by
 obtain ⟨P2,r2,s⟩:=rl.setNew hi rv fun _ z=>z.elim
 exact q _ P2 _ e Bd.set (fun a z=>(s a z).elim id False.elim) Ag.set r2
noncomputable def cP:(J:List Nat)->List Dv->Option (EF J)
 | [],[]=>some ()
 | [_],[d]=>some d
 | _::j::J,d::ds=>(cP (j::J) ds).bind fun t=>some (d,t)
 | _,_=>none
def Xi (J:List Nat) (d:Dv):Option (EF J):=match d with
 | .tup ds=>cP J ds
 | .lst ds=>cP J ds
 | _=>none
def iz (J:List Nat):Tg:=fun _ d m k=>(Xi J d).bind fun t=>k (AZ J m t)
def EN:List Nat->NU
 | []=>Wa
 | i::J=>LC (DX i) (EN J)
def ZQ (Γ:Gm) (J:List Nat) (x:Option Nat):Gm:=J.foldl (fun Γ i=>Γ.set i x) Γ
theorem IK {K:W.Frag}:∀ (J:List Nat) {Γ:Gm} {g:G} {m:M} {P:Fp} {ds:List Dv} {vs:List V} {σ:St} {H:Hp} {t:EF J} {Q:St->Hp->Prop},(∀ i∈J,i < Γ.length)->Rel K g H Γ m σ P->Reps K g H 0 ds vs nop->cP J ds=some t ->
    (∀ P' σ',(∀ a,P' a->P a)->Ag J σ σ'->Rel K g H (ZQ Γ J (some 0)) (AZ J m t) σ' P'->Q σ' H)->ds.length=J.length/\EN J vs σ H Q
  | [],Γ,g,m,P,ds,vs,σ,H,t,Q,hJ,r,rv,e,q=>by
    cases ds with
    | nil =>
      unfold Reps at rv;exact ⟨rfl,rv.1,q P σ (fun _ z=>z) ⟨rfl,fun _ _=>rfl⟩ r⟩
    | cons d ds=>cases e
  | [i],Γ,g,m,P,ds,vs,σ,H,t,Q,hJ,r,rv,e,q=>by
    match ds,e with
    | [d],e =>
      cases e;unfold Reps at rv;obtain ⟨v,vr,P1,P2,rfl,h1,h2,_,h4⟩:=rv;unfold Reps at h2;obtain ⟨P3,r3,s⟩:=r.setNew (hJ i kA) h1.z fun _ z=>z.elim
      exact ⟨rfl,v,vr,rfl,h2.1,q P3 _ (fun a z=>(s a z).elim id False.elim) Ag.set r3⟩
    | [],e=>cases e
    | _::_::_,e=>cases e
  | i::j::J,Γ,g,m,P,ds,vs,σ,H,t,Q,hJ,r,rv,e,q=>by
    match ds,e with
    | [],e=>cases e
    | d::ds,e =>
      obtain ⟨t',e1,e2⟩:=bind_some' (show (cP (j::J) ds).bind (fun t=>some (d,t))=some t from e);cases e2;unfold Reps at rv;obtain ⟨v,vr,P1,P2,rfl,h1,h2,_,h4⟩:=rv;obtain ⟨P3,r3,s⟩:=r.setNew (hJ i kA) h1.z fun _ z=>z.elim
      have s':∀ a,P3 a->P a:=fun a z=>(s a z).elim id False.elim
      have:=IK (j::J) (Q:=Q) (fun k hk=>by rw [kR];exact hJ k (kB _ hk)) r3 h2.z e1 fun P' σ' sp ag r'=>q P' σ' (fun a z=>s' a (sp a z)) (Ag.set.trans ag) r'
      exact ⟨by simp [this.1],v,vr,rfl,this.2⟩
abbrev fK (K:W.Frag) (n:Nat) (t:NU):TG:=fun v σ H Q=>WZ K n t v σ H Q\/az n t v σ H Q
theorem RS {K:W.Frag} {Γ:Gm} {J:List Nat} (hJ:∀ i∈J,i < Γ.length):NT K Γ (ZQ Γ J (some 0)) J (fK K J.length (EN J)) (iz J):=fun g m P d v σ H R k r Q rl rv e q=>by
 obtain ⟨t,e1,e2⟩:=bind_some' e;have go:∀ {ds vs},Reps K g H 0 ds vs nop->cP J ds=some t->ds.length=J.length/\EN J vs σ H Q:=fun h1 h2=>IK J hJ rl h1 h2 fun P' σ' sp ag r'=>q _ P' σ' e2 (AQ J m t) sp ag r'
 cases d with
 | tup ds =>
  unfold Rep at rv;obtain ⟨a,vs,rfl,h1,h2⟩:=rv;obtain ⟨l,z⟩:=go h2 e1;exact .inl ⟨a,vs,rfl,.inl (.inl h1),by rw [<- h2.len];exact l,z⟩
 | lst ds =>
  unfold Rep at rv;obtain ⟨a,vs,P',rfl,h1,h2,_⟩:=rv;obtain ⟨l,z⟩:=go h2.z e1;exact .inr ⟨a,vs,rfl,h1.1,by rw [<- h2.len];exact l,z⟩
 | _=>cases e1
theorem PG.or {X:Cx} {e:Expr} {t u:TG} (h:PG X e t) (k:PG X e u):PG X e fun v σ H Q=>t v σ H Q\/u v σ H Q:=fun pins s σ H v w Q I r q=>q.elim (h pins s σ H v w Q I r) (k pins s σ H v w Q I r)
theorem ay {js:List Nat} {t u:TG} (h:RB js t) (k:RB js u):RB js fun v σ H Q=>t v σ H Q\/u v σ H Q:=fun x σ H Q q=>q.elim (fun q=>.inl (h x σ H Q q)) fun q=>.inr (k x σ H Q q)
theorem EM {js:List Nat}:∀ (J:List Nat),(∀ i∈J,i∈js)->Qv js (EN J)
 | [],_=>TB
 | i::J,h=>QM (h i kA) (EM J fun k hk=>h k (kB _ hk))
def IY (f:Ev Dv) (tg:Tg):Es:=fun R m k=>f R m fun d m1=>tg R d m1 k.nx
section
variable {X:Cx} {F:Fr} {Γl:Option Gm} {Γ Γ' Γ2:Gm} {js js2:List Nat} {e tg:Expr} {pos pos':Pos} {fe:Ev Dv} {g:TG} {ft:Tg} {i o:Nat} {x:Str}
theorem XZ {K:W.Frag} (ht:NT K Γ2 Γ' js2 g ft) (hio:∀ i∈F.io,i∉js2) {D:Ends} {σ:St} {H:Hp} (h:tS K F Γl Γ (some Γ') (js++js2) (IY fe ft) D σ H):KF (tE K Γ 0 Γ2 js fe) g D σ H:=by
 obtain ⟨g0,m,P,r,R,k,res,e,q⟩:=h;refine ⟨g0,m,P,r,R,_,res,e,fun d m1 g' P' Pv v H' hk ag s rv r1 n=>ht g' m1 P' d v σ H' R k.nx res _ r1 rv.z hk fun m' P2 σ2 hk2 ag2 s2 i r2=>?_⟩;exact q.nx Γ' m' g' P2 σ2 H' rfl hk2 (ag.trans ag2) (s.less fun a z=>.inl (s2 a z)) (i.io hio) r2
theorem Nn {K:W.Frag} (hi:i < Γ2.length) (hio:i∉F.io) {D:Ends} {σ:St} {H:Hp} (h:tS K F Γl Γ (some (Γ2.set i (some o))) (js++[i]) (IY fe (cq i)) D σ H):KF (tE K Γ o Γ2 js fe) (DX i) D σ H:=by
 obtain ⟨g0,m,P,r,R,k,res,e,q⟩:=h;refine ⟨g0,m,P,r,R,_,res,e,fun d m1 g' P' Pv v H' hk ag s rv r1 n=>?_⟩;obtain ⟨P2,r2,s2⟩:=r1.setNew hi rv fun a q z=>n a z q
 exact q.nx _ _ g' P2 _ H' rfl hk (ag.trans Bd.set) (s.less fun a z=>s2 a z) (Io.set hio) r2
theorem dN (hN:X.N.Nodup) (hix:X.N[i]?=some x) (hx:Loc X.env.scope x) (hio:i∉F.io) (hi:i < Γ2.length) (he:PE X e (tE X.K Γ o Γ2 js fe)) (hs:swapsWith e (some (.Name x pos')) pos.line X.env=pure false) (hf:X.fn x=true\/X.env.scope.names.lookup x=some .local) :
    PS X (.Assign [.Name x pos'] e pos) (tS X.K F Γl Γ (some (Γ2.set i (some o))) (js++[i]) (IY fe (cq i))):=PS.imp (Zf hN hix hx he hs hf) fun _ _ _ h=>Nn hi hio h
theorem dU (he:PE X e (tE X.K Γ 0 Γ2 js fe)) (hg:PG X tg g) (ht:NT X.K Γ2 Γ' js2 g ft) (hio:∀ i∈F.io,i∉js2) (hs:swapsWithSole [tg] e pos.line X.env=pure false) (hw:swappedStores [tg] e X.env=pure none)
    (h1:(assignEach [tg] X.env).map (·.2)=[assign tg X.env]):PS X (.Assign [tg] e pos) (tS X.K F Γl Γ (some Γ') (js++js2) (IY fe ft)):=PS.imp (ML he hg hs hw h1) fun _ _ _ h=>XZ ht hio h
end
def HY (g:G) (H:Hp) (g2:G) (H2:Hp):Prop:=∃ P P',Step g P H g2 P' H2/\FpOk g H P
def Yl (K:W.Frag) (J:It) (ds:List Dv) (g:G) (H:Hp):Prop:=∀ g2 H2,HY g H g2 H2 ->
 (∀ i d,ds[i]?=some d->J.go i H2/\∀ x H3,J.yld i H2 x H3->AW K g2 H2 0 d x H3)/\∀ i,ds.length<=i->J.stop i H2
def tI (K:W.Frag) (Γ Γ':Gm) (js:List Nat) (f:Ev (List Dv)):TI:=fun σ H Q=>∃ g m P,Rel K g H Γ m σ P/\∃ (R:Type) (k:List Dv->M->Option R) (r:R),f R m k=some r /\
 ∀ ds m' g' P' H' J,k ds m'=some r->Bd js m m'->Step g P H g' P' H'->Rel K g' H' Γ' m' σ P'->Yl K J ds g' H'->Q J H'
theorem PI.imp {X:Cx} {tg e:Expr} {t t':TI} (h:PI X tg e t) (k:∀ σ H R,t' σ H R->t σ H R):PI X tg e t':=fun pins s σ H R I q=>h pins s σ H R I (k σ H R q)
theorem AW.old {K:W.Frag} {g:G} {H:Hp} {o:Nat} {d:Dv} {v:V} (h:Rep K g H o d v nop):AW K g H o d v H:=⟨fun _ _ q=>q,nop,h,fun _ z=>z.elim⟩
theorem HY.rep {K:W.Frag} {g g2:G} {H H2:Hp} {d:Dv} {v:V} (s:HY g H g2 H2) (h:Rep K g H 0 d v nop):Rep K g2 H2 0 d v nop:=by
 obtain ⟨P,P',st,ok⟩:=s;exact h.held st ok fun _ z=>z.elim
section
variable {τ γ ρ:Type}
inductive Lp (τ γ ρ:Type) where
 | go (c:γ) | bk (c:γ) | rt (d:τ) (r:ρ)
inductive Rs (τ γ ρ:Type) where
 | go (c:γ) | rt (d:τ) (r:ρ)
noncomputable def Rs.el {δ:Type} (x:Rs τ γ ρ) (f:γ->δ) (h:τ->ρ->δ):δ:=match x with | .go c=>f c | .rt d r=>h d r
noncomputable def Br (g:Dv->γ->Option γ):List Dv->γ->Option γ
 | [],c=>some c
 | x::xs,c=>(g x c).bind fun c1=>Br g xs c1
noncomputable def GG (g:Dv->γ->Option (Lp τ γ ρ)):List Dv->γ->Option (Rs τ γ ρ)
 | [],c=>some (.go c)
 | x::xs,c=>(g x c).bind fun l=>match l with
  | .go c1=>GG g xs c1
  | .bk c1=>some (.go c1)
  | .rt d r=>some (.rt d r)
noncomputable def Xg (t:γ->Option Bool) (g:γ->Option γ):Nat->γ->Option γ
 | 0,_=>none
 | n+1,c=>(t c).bind fun b=>if b=true then (g c).bind (Xg t g n) else some c
noncomputable def gg (t:γ->Option Bool) (g:γ->Option (Lp τ γ ρ)):Nat->γ->Option (Rs τ γ ρ)
 | 0,_=>none
 | n+1,c=>(t c).bind fun b=>if b=true then (g c).bind (fun l=>match l with
  | .go c1=>gg t g n c1
  | .bk c1=>some (.go c1)
  | .rt d r=>some (.rt d r)) else some (.go c)
end
def kC (J:List Nat):Kt (EF J):=⟨fun m'=>some (AV J m'),fun _ _=>none,fun _=>none,fun m'=>some (AV J m')⟩
def kE (J Jr:List Nat):Kt (Lp Dv (EF J) (EF Jr)):=⟨fun m'=>some (.go (AV J m')),fun d m'=>some (.rt d (AV Jr m')),fun m'=>some (.bk (AV J m')),fun m'=>some (.go (AV J m'))⟩
def TZ (src:Ev (List Dv)) (tg:Tg) (J:List Nat) (b:Es):Es:=fun R m k=>src R m fun ds m1 =>
 (Br (fun d t=>tg (EF J) d (AZ J m1 t) fun m2=>b (EF J) m2 (kC J)) ds (AV J m1)).bind fun t=>k.nx (AZ J m1 t)
def TY (src:Ev (List Dv)) (tg:Tg) (J Jr:List Nat) (b:Es):Es:=fun R m k=>src R m fun ds m1 =>
 (GG (fun d t=>tg (Lp Dv (EF J) (EF Jr)) d (AZ J m1 t) fun m2=>b (Lp Dv (EF J) (EF Jr)) m2 (kE J Jr)) ds (AV J m1)).bind fun x=>x.el (fun t=>k.nx (AZ J m1 t)) fun d t=>k.rt d (AZ Jr m1 t)
theorem Mj {J:List Nat} {Γ:Gm} {K:W.Frag} {g:G} {H:Hp} {m:M} {σ:St} {P:Fp} (r:Rel K g H Γ m σ P):Rel K g H Γ (AZ J m (AV J m)) σ P:=r.join (js:=[]) Bd.refl fun _ _ _=>.inr (by simp)
theorem OO {K:W.Frag} {F:Fr} {Γl0:Option Gm} {Γ Γt:Gm} {Γo:Option Gm} {jt jb:List Nat} {g:TG} {ft:Tg} {b:Es} {J Jr:List Nat} (ht:NT K Γ Γt jt g ft) (hio:∀ i∈F.io,i∉jt) (hw:JQ (some Γ) Γo=true)
    (hJ:J=Av Γ (jt++jb)) (hJr:Jr=Av F.Γr (jt++jb)) {ds:List Dv} {m1:M} {D:Ends} {σ:St} {H1:Hp} {g1:G} {P1:Fp} {I:It} {R:Type} {k:Kt R} {res:R}
    (r1:Rel K g1 H1 Γ m1 σ P1) (yl:Yl K I ds g1 H1) (run:List Dv->EF J->Prop) (h0:run ds (AV J m1)) (hn:∀ t,run [] t->k.nx (AZ J m1 t)=some res)
    (hc:∀ d ds t,run (d::ds) t->∃ (B:Type) (κ:Kt B) (r:B),ft B d (AZ J m1 t) (fun m2=>b B m2 κ)=some r/\(∀ m',κ.nx m'=some r->run ds (AV J m'))/\(∀ m',κ.ct m'=some r->run ds (AV J m')) /\
      (∀ m',κ.bk m'=some r->k.nx (AZ J m1 (AV J m'))=some res)/\∀ d m',κ.rt d m'=some r->k.rt d (AZ Jr m1 (AV Jr m'))=some res)
    (q:AcS K F Γl0 g1 P1 H1 σ D (some Γ) (jt++jb) m1 k res) :
    ∃ W:Nat->Nat->St->Hp->Prop,(∃ m,W 0 m σ H1)/\∀ i m σ H,W i m σ H ->
      (I.stop i H/\D.nx σ H)\/(I.go i H/\∃ N:St->Hp->Prop,(∀ σ' H',N σ' H'->∃ m',m' < m/\W (i+1) m' σ' H')/\∀ x H',I.yld i H x H'->g x σ H' fun σ2 H2=>tS K F (some Γ) Γt Γo jb b { D with nx:=N,ct:=N,bk:=D.nx } σ2 H2):=by
  have sub:∀ i∈J,i∈jt++jb:=fun i h=>Au (hJ▸h)
  have subr:∀ i∈Jr,i∈jt++jb:=fun i h=>Au (hJr▸h)
  refine ⟨fun i j σ' H'=>j=ds.length - i/\i<=ds.length/\∃ g2 t P2,Step g1 P1 H1 g2 P2 H'/\Io F.io σ σ'/\Rel K g2 H' Γ (AZ J m1 t) σ' P2/\run (ds.drop i) t,⟨ds.length,by simp,kg _,g1,AV J m1,P1,Step.refl,Io.refl,Mj r1,by simpa using h0⟩,?_⟩;rintro i j σ2 H2 ⟨rfl,hi,g2,t,P2,s2,i2,r2,e2⟩;have st:HY g1 H1 g2 H2:=⟨P1,P2,s2,r1.fpOk⟩
  by_cases hlt:i < ds.length
  · rw [mH hlt] at e2;obtain ⟨B,κ,rB,e3,knx,kct,kbk,krt⟩:=hc _ _ _ e2;obtain ⟨go,yy⟩:=(yl g2 H2 st).1 i ds[i] (jl hlt);refine .inr ⟨go,fun σ' H'=>∃ g5 P5 m',Step g1 P1 H1 g5 P5 H'/\Io F.io σ σ'/\Rel K g5 H' Γ m' σ' P5/\Bd (jt++jb) m1 m'/\run (ds.drop (i+1)) (AV J m'),?_,fun x H3 hy=>?_⟩
    · rintro σ' H' ⟨g5,P5,m',s5,i5,r5,ag,hr⟩;exact ⟨ds.length - (i+1),by omega,rfl,hlt,g5,AV J m',P5,s5,i5,r5.join ag fun i o h=>hJ▸BM h,hr⟩
    · obtain ⟨Pv,s3,h3,r3,n3⟩:=AW.go s2 r2 (yy x H3 hy);refine ht g2 _ P2 ds[i] x σ2 H3 B _ rB _ r3 h3.z e3 fun m2 P' σ' hk ag sp ip r'=>?_
      have s4:Step g1 P1 H1 g2 P' H3:=s3.less fun a z=>.inl (sp a z)
      have i4:=i2.trans (ip.io hio);have a4:Bd (jt++jb) m1 m2:=((AQ J m1 t).mono sub).trans ag |>.mono fun i z=>(kU.mp z).elim id fun z=>kH _ z
      have a5:∀ {m'},Bd jb m2 m'->Bd (jt++jb) m1 m':=fun h=>(a4.trans h).mono fun i z=>(kU.mp z).elim id fun z=>jw _ z
      refine ⟨g2,m2,P',r',B,κ,rB,hk,⟨fun Γ' m' g' P'' σ'' H' e hk ag' s' i' rr=>?_,fun d m' g' P'' Pv σ'' v H' hk ag' s' i' rv rr n=>?_,fun Γ' m' g' P'' σ'' H' e hk ag' s' i' rr=>?_,fun Γ' m' g' P'' σ'' H' e hk ag' s' i' rr=>?_⟩⟩
      · subst e;obtain ⟨g6,P6,s6,r6⟩:=rr.weaken (by unfold JQ at hw;exact hw);exact ⟨g6,P6,m',(s4.trans s').trans s6,i4.trans i',r6,a5 ag',knx m' hk⟩
      · exact q.rt d _ g' P'' Pv σ'' v H' (krt d m' hk) ((AQ Jr m1 _).mono subr) (s4.trans s') (i4.trans i') rv (rr.join (a5 ag') fun i o h=>hJr▸BM h) n
      · cases e;exact q.nx Γ _ g' P'' σ'' H' rfl (kbk m' hk) ((AQ J m1 _).mono sub) (s4.trans s') (i4.trans i') (rr.join (a5 ag') fun i o h=>hJ▸BM h)
      · cases e;exact ⟨g',P'',m',s4.trans s',i4.trans i',rr,a5 ag',kct m' hk⟩
  · have ei:i=ds.length:=by omega
    subst ei;rw [List.drop_length] at e2;exact .inl ⟨(yl g2 H2 st).2 _ (ju _),q.nx Γ _ g2 P2 σ2 H2 rfl (hn t e2) ((AQ J m1 _).mono sub) s2 i2 r2⟩
section
variable {X:Cx} {F:Fr} {Γl0:Option Gm} {Γ Γ1 Γ2 Γt:Gm} {Γo:Option Gm} {js jt jb J Jr:List Nat} {tg iter:Expr} {body:List Stmt} {src:Ev (List Dv)} {g:TG} {ft:Tg} {b:Es} {pos:Pos}
theorem HY.pre {g g2 g3:G} {H H3:Hp} {P P2:Fp} (s:Step g P H g2 P2 H) (ok:FpOk g H P) (st:HY g2 H g3 H3):HY g H g3 H3:=by
 obtain ⟨P3,P3',s3,ok3⟩:=st;exact ⟨fun a=>P a\/P3 a,P3',(s.frame (R:=P3)).trans (s3.sub (fun _ z=>.inr z) fun _ z=>z),ok.or fun a z=>⟨(ok3 a z).1,fun w=>(ok3 a z).2 (s.zm a w)⟩⟩
theorem Uz {K:W.Frag} {σ:St} {H:Hp} {Q:It->Hp->Prop} (hw:BY Γ2 Γ1=true) (h:tI K Γ Γ2 js src σ H Q):tI K Γ Γ1 js src σ H Q:=by
 obtain ⟨g,m,P,r,R,k,res,e,q⟩:=h;refine ⟨g,m,P,r,R,k,res,e,fun ds m' g' P' H' J hk ag s r1 yl=>?_⟩;obtain ⟨g2,P2,s2,r2⟩:=r1.weaken hw;exact q ds m' g2 P2 H' J hk ag (s.trans s2) r2 fun g3 H3 st=>yl g3 H3 (st.pre s2 r1.fpOk)
theorem ZU (hp:PassesOwn (model X.prog X.w) X.A X.env X.xe) (hc:X.calm=true) (hi:PI X tg iter (tI X.K Γ Γ1 js src)) (hg:PG X tg g) (ht:NT X.K Γ1 Γt jt g ft) (hio:∀ i∈F.io,i∉jt) (hb:DM X body (tS X.K F (some Γ1) Γt Γo jb b)) (hw:JQ (some Γ1) Γo=true) (hJ:J=Av Γ1 (jt++jb))
    (hs:∀ x,foldedSetIterable iter X.env x=pure x):PS X (.For tg iter body [] pos) (tS X.K F Γl0 Γ (some Γ1) (js++(jt++jb)) (TZ src ft J b)):=PS.imp (SJ hp hc hi hg hb hs) fun D σ H h=>by
  obtain ⟨g0,m,P,r,R,k,res,e,q⟩:=h;refine ⟨g0,m,P,r,R,_,res,e,fun ds m1 g1 P1 H1 I hk ag s r1 yl=>?_⟩;obtain ⟨t,e1,e2⟩:=bind_some' hk;refine OO (Jr:=Av F.Γr (jt++jb)) ht hio hw hJ rfl r1 yl (fun ds t0=>Br _ ds t0=some t) e1 (fun t0 h=>?_) (fun d ds t0 h=>?_) (q.later s Io.refl ag)
  · cases h;exact e2
  · obtain ⟨t1,h1,h2⟩:=bind_some' h;refine ⟨EF J,kC J,t1,h1,fun m' hk=>?_,fun m' hk=>?_,(fun m' hk=>by cases hk),fun d m' hk=>by cases hk⟩
    · cases hk;exact h2
    · cases hk;exact h2
theorem ZT (hp:PassesOwn (model X.prog X.w) X.A X.env X.xe) (hc:X.calm=true) (hi:PI X tg iter (tI X.K Γ Γ1 js src)) (hg:PG X tg g) (ht:NT X.K Γ1 Γt jt g ft) (hio:∀ i∈F.io,i∉jt) (hb:DM X body (tS X.K F (some Γ1) Γt Γo jb b)) (hw:JQ (some Γ1) Γo=true) (hJ:J=Av Γ1 (jt++jb)) (hJr:Jr=Av F.Γr (jt++jb))
    (hs:∀ x,foldedSetIterable iter X.env x=pure x):PS X (.For tg iter body [] pos) (tS X.K F Γl0 Γ (some Γ1) (js++(jt++jb)) (TY src ft J Jr b)):=PS.imp (SJ hp hc hi hg hb hs) fun D σ H h=>by
  obtain ⟨g0,m,P,r,R,k,res,e,q⟩:=h;refine ⟨g0,m,P,r,R,_,res,e,fun ds m1 g1 P1 H1 I hk ag s r1 yl=>?_⟩;obtain ⟨x,e1,e2⟩:=bind_some' hk;refine OO ht hio hw hJ hJr r1 yl (fun ds t0=>GG _ ds t0=some x) e1 (fun t0 h=>?_) (fun d ds t0 h=>?_) (q.later s Io.refl ag)
  · cases h;exact e2
  · obtain ⟨l,h1,h2⟩:=bind_some' h;refine ⟨_,kE J Jr,l,h1,fun m' hk=>?_,fun m' hk=>?_,fun m' hk=>?_,fun d m' hk=>?_⟩
    · cases hk;exact h2
    · cases hk;exact h2
    · cases hk;cases h2;exact e2
    · cases hk;cases h2;exact e2
end
def YO (n:Nat) (c:Ev Bool) (J:List Nat) (b:Es):Es:=fun R m k =>
 (Xg (fun t=>c Bool (AZ J m t) fun b _=>some b) (fun t=>b (EF J) (AZ J m t) (kC J)) n (AV J m)).bind fun t=>k.nx (AZ J m t)
def YN (n:Nat) (c:Ev Bool) (J Jr:List Nat) (b:Es):Es:=fun R m k =>
 (gg (fun t=>c Bool (AZ J m t) fun b _=>some b) (fun t=>b (Lp Dv (EF J) (EF Jr)) (AZ J m t) (kE J Jr)) n (AV J m)).bind fun x=>x.el (fun t=>k.nx (AZ J m t)) fun d t=>k.rt d (AZ Jr m t)
theorem RJ {K:W.Frag} {F:Fr} {Γl0:Option Gm} {Γ Γc:Gm} {Γo:Option Gm} {jb:List Nat} {c:Ev Bool} {b:Es} {J Jr:List Nat} (hwc:BY Γ Γc=true) (hw:JQ (some Γ) Γo=true)
    (hJ:J=Av Γ jb) (hJr:Jr=Av F.Γr jb) {m1:M} {D:Ends} {σ:St} {H1:Hp} {g1:G} {P1:Fp} {R:Type} {k:Kt R} {res:R}
    (r1:Rel K g1 H1 Γ m1 σ P1) (run:Nat->EF J->Prop) {n:Nat} (h0:run n (AV J m1))
    (hc:∀ n t,run n t->∃ bb,c Bool (AZ J m1 t) (fun b _=>some b)=some bb/\if bb=true then ∃ n',n' < n/\∃ (B:Type) (κ:Kt B) (r:B),b B (AZ J m1 t) κ=some r/\(∀ m',κ.nx m'=some r->run n' (AV J m'))/\(∀ m',κ.ct m'=some r->run n' (AV J m')) /\
      (∀ m',κ.bk m'=some r->k.nx (AZ J m1 (AV J m'))=some res)/\(∀ d m',κ.rt d m'=some r->k.rt d (AZ Jr m1 (AV Jr m'))=some res) else k.nx (AZ J m1 t)=some res)
    (q:AcS K F Γl0 g1 P1 H1 σ D (some Γ) jb m1 k res):RU (tT K Γ Γc [] c) (tS K F (some Γ) Γ Γo jb b) D σ H1:=by
  have sub:∀ i∈J,i∈jb:=fun i h=>Au (hJ▸h)
  have subr:∀ i∈Jr,i∈jb:=fun i h=>Au (hJr▸h)
  refine ⟨fun n σ' H'=>∃ g2 t P2,Step g1 P1 H1 g2 P2 H'/\Io F.io σ σ'/\Rel K g2 H' Γ (AZ J m1 t) σ' P2/\run n t,⟨n,g1,AV J m1,P1,Step.refl,Io.refl,Mj r1,h0⟩,?_⟩;rintro n' σ2 H2 ⟨g2,t,P2,s2,i2,r2,e2⟩;obtain ⟨bb,e3,e4⟩:=hc n' t e2;refine ⟨g2,_,P2,r2,Bool,_,bb,e3,fun b' m' g3 P3 H3 hk ag s3 r3=>?_⟩;cases hk;obtain ⟨g4,P4,s4,r4⟩:=r3.weaken hwc;have r5:Rel K g4 H3 Γ (AZ J m1 t) σ2 P4:=r4.agree ag.1.symm fun i o _=>(ag.2 i (by simp)).symm
  have s5:=(s2.trans s3).trans s4;cases bb with
  | false=>rw [if_neg kI] at e4 ⊢;exact q.nx Γ _ g4 P4 σ2 H3 rfl e4 ((AQ J m1 _).mono sub) s5 i2 r5
  | true =>
    rw [if_pos rfl] at e4 ⊢;obtain ⟨n2,hn,B,κ,rB,eb,knx,kct,kbk,krt⟩:=e4;have a5:∀ {m'},Bd jb (AZ J m1 t) m'->Bd jb m1 m':=fun h=>(((AQ J m1 t).mono sub).trans h).mono fun i z=>(kU.mp z).elim id id
    refine ⟨fun σ' H'=>∃ g5 P5 m',Step g1 P1 H1 g5 P5 H'/\Io F.io σ σ'/\Rel K g5 H' Γ m' σ' P5/\Bd jb m1 m'/\run n2 (AV J m'),?_,g4,_,P4,r5,B,κ,rB,eb,⟨fun Γ' m' g' P'' σ'' H' e hk ag' s' i' rr=>?_,fun d m' g' P'' Pv σ'' v H' hk ag' s' i' rv rr n=>?_,fun Γ' m' g' P'' σ'' H' e hk ag' s' i' rr=>?_,fun Γ' m' g' P'' σ'' H' e hk ag' s' i' rr=>?_⟩⟩
    · rintro σ' H' ⟨g6,P6,m',s6,i6,r6,ag6,hr⟩;exact ⟨n2,hn,g6,AV J m',P6,s6,i6,r6.join ag6 fun i o h=>hJ▸BM h,hr⟩
    · subst e;obtain ⟨g6,P6,s6,r6⟩:=rr.weaken (by unfold JQ at hw;exact hw);exact ⟨g6,P6,m',(s5.trans s').trans s6,i2.trans i',r6,a5 ag',knx m' hk⟩
    · exact q.rt d _ g' P'' Pv σ'' v H' (krt d m' hk) ((AQ Jr m1 _).mono subr) (s5.trans s') (i2.trans i') rv (rr.join (a5 ag') fun i o h=>hJr▸BM h) n
    · cases e;exact q.nx Γ _ g' P'' σ'' H' rfl (kbk m' hk) ((AQ J m1 _).mono sub) (s5.trans s') (i2.trans i') (rr.join (a5 ag') fun i o h=>hJ▸BM h)
    · cases e;exact ⟨g',P'',m',s5.trans s',i2.trans i',rr,a5 ag',kct m' hk⟩
section
variable {X:Cx} {F:Fr} {Γl0:Option Gm} {Γ Γc:Gm} {Γo:Option Gm} {jb J Jr:List Nat} {c:Expr} {body:List Stmt} {t:Ev Bool} {b:Es} {pos:Pos}
theorem dM (n:Nat) (hp:PassesOwn (model X.prog X.w) X.A X.env X.xe) (hc:PT X c (tT X.K Γ Γc [] t)) (hb:DM X body (tS X.K F (some Γ) Γ Γo jb b)) (hwc:BY Γ Γc=true) (hw:JQ (some Γ) Γo=true) (hJ:J=Av Γ jb) :
    PS X (.While c body [] pos) (tS X.K F Γl0 Γ (some Γ) jb (YO n t J b)):=PS.imp (Ke hp hc hb) fun D σ H h=>by
  obtain ⟨g0,m,P,r,R,k,res,e,q⟩:=h;obtain ⟨t',e1,e2⟩:=bind_some' e;refine RJ (Jr:=Av F.Γr jb) hwc hw hJ rfl r (fun n t0=>Xg _ _ n t0=some t') e1 (fun n t0 h=>?_) q;cases n with
  | zero=>cases h
  | succ n =>
    obtain ⟨bb,h1,h2⟩:=bind_some' h;refine ⟨bb,h1,?_⟩;cases bb with
    | false=>rw [if_neg kI] at h2 ⊢;cases h2;exact e2
    | true =>
      rw [if_pos rfl] at h2 ⊢;obtain ⟨t1,h3,h4⟩:=bind_some' h2;refine ⟨n,mj n,EF J,kC J,t1,h3,fun m' hk=>?_,fun m' hk=>?_,(fun m' hk=>by cases hk),fun d m' hk=>by cases hk⟩
      · cases hk;exact h4
      · cases hk;exact h4
theorem dJ (n:Nat) (hp:PassesOwn (model X.prog X.w) X.A X.env X.xe) (hc:PT X c (tT X.K Γ Γc [] t)) (hb:DM X body (tS X.K F (some Γ) Γ Γo jb b)) (hwc:BY Γ Γc=true) (hw:JQ (some Γ) Γo=true) (hJ:J=Av Γ jb) (hJr:Jr=Av F.Γr jb) :
    PS X (.While c body [] pos) (tS X.K F Γl0 Γ (some Γ) jb (YN n t J Jr b)):=PS.imp (Ke hp hc hb) fun D σ H h=>by
  obtain ⟨g0,m,P,r,R,k,res,e,q⟩:=h;obtain ⟨x,e1,e2⟩:=bind_some' e;refine RJ hwc hw hJ hJr r (fun n t0=>gg _ _ n t0=some x) e1 (fun n t0 h=>?_) q;cases n with
  | zero=>cases h
  | succ n =>
    obtain ⟨bb,h1,h2⟩:=bind_some' h;refine ⟨bb,h1,?_⟩;cases bb with
    | false=>rw [if_neg kI] at h2 ⊢;cases h2;exact e2
    | true =>
      rw [if_pos rfl] at h2 ⊢;obtain ⟨l,h3,h4⟩:=bind_some' h2;refine ⟨n,mj n,_,kE J Jr,l,h3,fun m' hk=>?_,fun m' hk=>?_,fun m' hk=>?_,fun d m' hk=>?_⟩
      · cases hk;exact h4
      · cases hk;exact h4
      · cases hk;cases h4;exact e2
      · cases hk;cases h4;exact e2
end
end R
namespace Q
open PySem L2
inductive Dt where
 | non | bl (b:Bool) | int (i:Int) | str (x:List Nat)
 | tup (xs:List Dt) | lst (o:Bool) (xs:List Dt) | dic (o:Bool) (kvs:List (Dt×Dt)) | ref (k:Nat) | scr (ns:List Int) | ty (n:String) | mtp (ls:List (List Nat)) | dti (o:Bool) (kvs:List (List Int×Int))
 deriving Inhabited
structure G where
 Z:Addr->Prop
 μ:List Addr
noncomputable abbrev Fp:=Addr->Prop
def Disj (P Q:Fp):Prop:=∀ a,P a->Q a->False
def Lk (g:G) (H:Hp):Bool->Addr->List V->Prop
 | true,a,vs=>H a=some (.lst vs)/\¬ g.Z a
 | false,a,vs=>H a=some (.lst vs)/\g.Z a
def Scr (K:W.Frag) (H:Hp) (a:Addr) (ns:List Int):Prop:=(∃ o,H a=some (.frz o (.lst (ns.map V.int)))) \/
    ∃ (o:Obj) (its:Array Value) (n:Nat),K.lookup a=some o/\o.cls=.type "list" /\ o.dict=none/\o.data=.seq its n/\its.size<=sizeLine/\AD (ns.map V.int) its.toList
def Mtp (K:W.Frag) (a:Addr) (ls:List (List Nat)):Prop:=∃ (o:Obj) (its:Array Value) (n:Nat),K.lookup a=some o/\o.cls=.type "tuple" /\ o.data=.seq its n/\its.size<=sizeLine/\AD (ls.map fun l=>V.str (tx l)) its.toList
def encD (kvs:List (List Int×Int)):List (List BE×V):=kvs.map fun p=>(p.1.map Sum.inl,V.int p.2)
mutual
noncomputable def Rep (K:W.Frag) (g:G) (H:Hp):Dt->V->Fp->Prop
 | .non,v,P=>v=.non/\∀ a,¬ P a
 | .bl b,v,P=>v=.bl b/\∀ a,¬ P a
 | .int i,v,P=>v=.int i/\∀ a,¬ P a
 | .str l,v,P=>v=.str (tx l)/\∀ a,¬ P a
 | .tup ds,v,P=>∃ a vs,v=.ref a/\H a=some (.tup vs)/\Reps K g H ds vs P
 | .lst o ds,v,P=>∃ a vs P',v=.ref a/\Lk g H o a vs/\Reps K g H ds vs P'/\¬ P' a/\(o=false->∀ b,¬ P' b)/\∀ b,P b↔(o=true/\b=a)\/P' b
 | .dic _ _,_,_=>False
 | .ref k,v,P=>(∃ a,g.μ[k]?=some a/\v=.ref a)/\∀ a,¬ P a
 | .scr ns,v,P=>(∃ a,v=.ref a/\Scr K H a ns)/\∀ a,¬ P a
 | .ty n,v,P=>v=.ty n/\∀ a,¬ P a
 | .mtp ls,v,P=>(∃ a,v=.ref a/\Mtp K a ls)/\∀ a,¬ P a
 | .dti o kvs,v,P=>∃ a,v=.ref a/\H a=some (.dT (encD kvs))/\(o=true->¬ g.Z a)/\(o=false->g.Z a)/\∀ b,P b↔(o=true/\b=a)
noncomputable def Reps (K:W.Frag) (g:G) (H:Hp):List Dt->List V->Fp->Prop
 | [],vs,P=>vs=[]/\∀ a,¬ P a
 | d::ds,vs,P=>∃ v r P1 P2,vs=v::r/\Rep K g H d v P1/\Reps K g H ds r P2/\Disj P1 P2/\∀ a,P a↔P1 a\/P2 a
end
mutual
noncomputable def Dt.cp:Dt->Bool
 | .tup ds=>cps ds
 | .lst o ds=>!o && cps ds
 | .dti o _=>!o
 | .dic _ _=>false
 | _=>true
noncomputable def cps:List Dt->Bool
 | []=>true
 | d::ds=>d.cp && cps ds
end
section
variable {K:W.Frag} {g g':G} {H H':Hp}
def nop:Fp:=fun _=>False
theorem nop_iff {R:Fp} (h:∀ a,¬ R a):R=nop:=funext fun a=>propext ⟨fun z=>(h a z).elim,fun z=>z.elim⟩
theorem Reps.nil:Reps K g H [] [] nop:=by unfold Reps;exact ⟨rfl,fun _ z=>z⟩
end
structure Ob where
 c:Nat
 fs:List (Str×Dt)
structure M where
 ρ:List (Option Dt)
 S:List Ob
noncomputable abbrev Ev (α:Type):=M->Option (α×M)
section
end
section
end
inductive Om where
 | ev (f:Ev Dt)
 | rf (i:Nat)
def RA (K:W.Frag) (g:G) (H:Hp):List Dt->List V->Prop
 | [],vs=>vs=[]
 | d::ds,vs=>∃ v r P,vs=v::r/\Rep K g H d v P/\RA K g H ds r
noncomputable abbrev Pr:=List Dt->Option Dt
section
end
section
variable {X:Cx} {a b c e:Expr} {es:List Expr} {pos:Pos} {oa ob oc:Om} {os:List Om} {f fa fb:Ev Dt} {p:Pr}
def evd:List Om->Bool
 | []=>true
 | .ev _::os=>evd os
 | .rf _::_=>false
end
def jK (f g:Ev Bool) (m:M):Option (Bool×M):=do
 let (b,m1) <- f m
 if b then g m1 else some (false,m1)
def evOr (f g:Ev Bool) (m:M):Option (Bool×M):=do
 let (b,m1) <- f m
 if b then some (true,m1) else g m1
section
variable {K:W.Frag} {σ:St} {H:Hp}
theorem rep_bl {g:G} {b:Bool} {v:V} {P:Fp} (h:Rep K g H (.bl b) v P):v=.bl b:=by unfold Rep at h;exact h.1
theorem rep_int {g:G} {b:Int} {v:V} {P:Fp} (h:Rep K g H (.int b) v P):v=.int b:=by unfold Rep at h;exact h.1
theorem rep_str {g:G} {b:List Nat} {v:V} {P:Fp} (h:Rep K g H (.str b) v P):v=.str (tx b):=by unfold Rep at h;exact h.1
theorem rep_non {g:G} {v:V} {P:Fp} (h:Rep K g H .non v P):v=.non:=by unfold Rep at h;exact h.1
end
section
end
inductive Fl where
 | nx | ct | bk | rt (d:Dt)
noncomputable abbrev Es:=M->Option (Fl×M)
section
end
noncomputable abbrev Tg:=Dt->M->Option M
section
end
section
end
def items:Dt->Option (List Dt)
 | .tup ds=>bif cps ds then some ds else none
 | .lst _ ds=>bif cps ds then some ds else none
 | .scr ns=>some (ns.map .int)
 | _=>none
section
end
section
variable {X:Cx} {tg e a b:Expr} {f:Ev Dt} {oa ob:Om} {p pos:Pos}
noncomputable def small (i:Int):Bool:=-1000000000<=i && i<=1000000000
end
section
end
def Bk (K:W.Frag) (g:G) (H:Hp) (vs:List V):List Nat->List Dt->Fp->Prop
 | [],bs,P=>bs=[]/\∀ a,¬ P a
 | i::io,bs,P=>∃ b br v P1 P2,bs=b::br/\vs[i]?=some v/\Rep K g H b v P1/\Bk K g H vs io br P2/\Disj P1 P2/\∀ a,P a↔P1 a\/P2 a
section
end
section
end
section
end
section
end
section
end
section
variable {K:W.Frag} {g:G} {H:Hp}
noncomputable def big (i:Int):Bool:=decide (-(2 ^ 64) < i) && decide (i < 2 ^ 64)
theorem atI_map {α β:Type} {f:α->β} {xs:List α} {i:Int}:ED (xs.map f) i=(ED xs i).map f:=by
 unfold ED;rw [jv];cases Me xs.length i with
 | none=>rfl
 | some j=>show (xs.map f)[j]?=_;rw [kN];rfl
def cutA {α:Type} (xs:List α) (lo hi:Option Int):List α:=(xs.drop (HT.sIx xs.length 0 lo)).take (HT.sIx xs.length xs.length hi - HT.sIx xs.length 0 lo)
theorem map_cut {α β:Type} (f:α->β) (xs:List α) (lo hi:Option Int):(cutA xs lo hi).map f=cutA (xs.map f) lo hi:=by
 unfold cutA;rw [mZ,List.map_drop,jv]
end
section
end
end Q
namespace L3
open PySem PySem.Spec PyProof.Rows PySem.SeqAt L2
abbrev St:=L2.St
inductive D where
 | fl (v:V)
 | tup (ds:List D)
 | lst (ds:List D)
mutual
noncomputable def eqD:D->D->Bool
 | .fl a,.fl b=>eqV a b
 | .tup a,.tup b=>eqDs a b
 | .lst a,.lst b=>eqDs a b
 | _,_=>false
noncomputable def eqDs:List D->List D->Bool
 | [],[]=>true
 | x::xs,y::ys=>eqD x y && eqDs xs ys
 | _,_=>false
end
mutual
noncomputable def D.dep:D->Nat
 | .fl _=>0
 | .tup ds=>depL ds+1
 | .lst ds=>depL ds+1
noncomputable def depL:List D->Nat
 | []=>0
 | d::ds=>max d.dep (depL ds)
end
mutual
noncomputable def Is (K:W.Frag) (H:Hp):V->D->Prop
 | x,.fl v=>x=v/\EH v=true
 | x,.tup ds=>∃ a xs,x=.ref a/\Cr K H a xs/\IsL K H xs ds
 | x,.lst ds=>∃ a xs,x=.ref a/\CB K H a xs/\IsL K H xs ds
noncomputable def IsL (K:W.Frag) (H:Hp):List V->List D->Prop
 | [],[]=>True
 | x::xs,d::ds=>Is K H x d/\IsL K H xs ds
 | _,_=>False
end
theorem IsL.inv {K:W.Frag} {H:Hp} {x:V} {xs:List V} {es:List D} (h:IsL K H (x::xs) es):∃ d ds,es=d::ds/\Is K H x d/\IsL K H xs ds:=by
 cases es with
 | nil=>unfold IsL at h;exact h.elim
 | cons d ds=>unfold IsL at h;exact ⟨d,ds,rfl,h.1,h.2⟩
theorem IsL.length {K:W.Frag} {H:Hp}:∀ {xs:List V} {ds:List D},IsL K H xs ds->xs.length=ds.length
 | [],[],_=>rfl
 | [],_::_,h=>by unfold IsL at h;exact h.elim
 | _::_,[],h=>by unfold IsL at h;exact h.elim
 | x::xs,d::ds,h=>by unfold IsL at h;rw [kG,kG,IsL.length h.2]
theorem IsL.get {K:W.Frag} {H:Hp}:∀ {xs:List V} {ds:List D} {i:Nat} {d:D},IsL K H xs ds->ds[i]?=some d->∃ x,xs[i]?=some x/\Is K H x d
 | [],[],_,_,_,e=>by simp at e
 | [],_::_,_,_,h,_=>by unfold IsL at h;exact h.elim
 | _::_,[],_,_,_,e=>by simp at e
 | x::xs,d::ds,0,d',h,e=>by
  unfold IsL at h;have:d=d':=by simpa using e
  subst this;exact ⟨x,rfl,h.1⟩
 | x::xs,d::ds,i+1,_,h,e=>by
  unfold IsL at h;obtain ⟨y,e1,e2⟩:=IsL.get (i:=i) h.2 (by simpa using e);exact ⟨y,by simpa using e1,e2⟩
theorem Nf {X:Cx} {pins:List (Addr×Obj)} {σ:St} {H:Hp} {s:Shared} {a:Addr} {xs ys:List V} (I:Inv X pins σ H s) (h:Cr X.K H a xs) (k:CB X.K H a ys):False:=by
 obtain ⟨_,_,⟨o,e,c,_⟩,_⟩:=I.tuple h;obtain ⟨_,_,⟨o',n,e',c',_⟩,_⟩:=I.list k;rw [e] at e';cases e';rw [c] at c';injection c' with q
 exact absurd q (by decide)
mutual
theorem Is.inj {X:Cx} {pins:List (Addr×Obj)} {σ:St} {H:Hp} {s:Shared} (I:Inv X pins σ H s):∀ {d e:D} {x:V},Is X.K H x d->Is X.K H x e->d=e
 | .fl v,e,x,h,k=>by
  unfold Is at h;obtain ⟨rfl,hf⟩:=h;cases e with
  | fl u=>unfold Is at k;rw [k.1]
  | tup es=>unfold Is at k;obtain ⟨a,xs,rfl,_⟩:=k;cases hf
  | lst es=>unfold Is at k;obtain ⟨a,xs,rfl,_⟩:=k;cases hf
 | .tup ds,e,x,h,k=>by
  unfold Is at h;obtain ⟨a,xs,rfl,h1,h2⟩:=h;cases e with
  | fl u=>unfold Is at k;obtain ⟨k1,k2⟩:=k;rw [<- k1] at k2;cases k2
  | tup es =>
   unfold Is at k;obtain ⟨b,ys,e,k1,k2⟩:=k;cases e;rw [I.tuple_inj h1 k1] at h2;rw [IsL.inj I h2 k2]
  | lst es=>unfold Is at k;obtain ⟨b,ys,e,k1,k2⟩:=k;cases e;exact (Nf I h1 k1).elim
 | .lst ds,e,x,h,k=>by
  unfold Is at h;obtain ⟨a,xs,rfl,h1,h2⟩:=h;cases e with
  | fl u=>unfold Is at k;obtain ⟨k1,k2⟩:=k;rw [<- k1] at k2;cases k2
  | lst es =>
   unfold Is at k;obtain ⟨b,ys,e,k1,k2⟩:=k;cases e;rw [I.list_inj h1 k1] at h2;rw [IsL.inj I h2 k2]
  | tup es=>unfold Is at k;obtain ⟨b,ys,e,k1,k2⟩:=k;cases e;exact (Nf I k1 h1).elim
theorem IsL.inj {X:Cx} {pins:List (Addr×Obj)} {σ:St} {H:Hp} {s:Shared} (I:Inv X pins σ H s):∀ {ds es:List D} {xs:List V},IsL X.K H xs ds->IsL X.K H xs es->ds=es
 | [],es,[],h,k=>by
  cases es with
  | nil=>rfl
  | cons e es=>unfold IsL at k;exact k.elim
 | [],_,_::_,h,_=>by unfold IsL at h;exact h.elim
 | _::_,_,[],h,_=>by unfold IsL at h;exact h.elim
 | d::ds,es,x::xs,h,k=>by
  unfold IsL at h;obtain ⟨e,es',rfl,k1,k2⟩:=k.inv;rw [Is.inj I h.1 k1,IsL.inj I h.2 k2]
end
theorem eqV_refl {v:V} (h:EH v=true):eqV v v=true:=by
 cases v<;>first | rfl | (simp [eqV];done) | cases h
mutual
theorem eqD_refl {K:W.Frag} {H:Hp}:∀ {d:D} {x:V},Is K H x d->eqD d d=true
 | .fl v,x,h=>by unfold Is at h;unfold eqD;exact eqV_refl h.2
 | .tup ds,x,h=>by unfold Is at h;obtain ⟨_,_,_,_,h2⟩:=h;unfold eqD;exact eqDs_refl h2
 | .lst ds,x,h=>by unfold Is at h;obtain ⟨_,_,_,_,h2⟩:=h;unfold eqD;exact eqDs_refl h2
theorem eqDs_refl {K:W.Frag} {H:Hp}:∀ {ds:List D} {xs:List V},IsL K H xs ds->eqDs ds ds=true
 | [],_,_=>by unfold eqDs;rfl
 | _::_,[],h=>by unfold IsL at h;exact h.elim
 | d::ds,x::xs,h=>by
  unfold IsL at h;unfold eqDs;rw [eqD_refl h.1,eqDs_refl h.2];rfl
end
theorem Bj:∀ (xs ys:List D) (e:Nat->Bool),(∀ i x y,xs[i]?=some x->ys[i]?=some y->e i=eqD x y)->((List.range (min xs.length ys.length)).all e && xs.length == ys.length)=eqDs xs ys
 | [],[],_,_=>by unfold eqDs;rfl
 | [],_::_,_,_=>by unfold eqDs;simp
 | _::_,[],_,_=>by unfold eqDs;simp
 | x::xs,y::ys,e,h=>by
  have ih:=Bj xs ys (fun i=>e (i+1)) fun i a b h1 h2=>h (i+1) a b (by simpa using h1) (by simpa using h2)
  have h0:=h 0 x y rfl rfl;unfold eqDs;rw [<- ih,<- h0,kG,kG,Nat.succ_min_succ,mO,kr,List.all_map];have:((xs.length+1 == ys.length+1):Bool)=(xs.length == ys.length):=by simp
  rw [this,Bool.and_assoc];rfl
theorem Eo:∀ {ds:List D} {i:Nat} {d:D},ds[i]?=some d->d.dep<=depL ds
 | [],_,_,e=>by simp at e
 | d::ds,0,d',e=>by
  have:d=d':=by simpa using e
  subst this;show d.dep<=depL (d::ds);unfold depL;exact Nat.le_max_left _ _
 | d::ds,i+1,x,e=>by
  have:=Eo (ds:=ds) (i:=i) (d:=x) (by simpa using e);unfold depL;exact kM this (Nat.le_max_right _ _)
section
variable {X:Cx} {pins:List (Addr×Obj)} {σ:St} {H:Hp} {s:Shared}
def eAt (ds es:List D) (i:Nat):Bool:=match ds[i]?,es[i]? with | some a,some b=>eqD a b | _,_=>true
theorem eAt_of {ds es:List D} {i:Nat} {a b:D} (h1:ds[i]?=some a) (h2:es[i]?=some b):eAt ds es i=eqD a b:=by unfold eAt;rw [h1,h2]
theorem Ai {x:V} (h:EH x=true):x=.non\/(∃ b,x=.bl b)\/(∃ i,x=.int i)\/∃ z,x=.str z:=by
 cases x with
 | non=>exact .inl rfl
 | bl b=>exact .inr (.inl ⟨b,rfl⟩)
 | int i=>exact .inr (.inr (.inl ⟨i,rfl⟩))
 | str z=>exact .inr (.inr (.inr ⟨z,rfl⟩))
 | _=>cases h
theorem Tn (I:Inv X pins σ H s):∀ (n:Nat) (A:Around) (d e:D) (x y:V) (u v:Value),d.dep<=n->A.units+n < cLine->RelV x u->RelV y v->Is X.K H x d->Is X.K H y e->EqAt A s u v (eqD d e):=by
 intro n
 induction n with
 | zero =>
  intro A d e x y u v hd hu rx ry hx hy;cases d with
  | fl a =>
   unfold Is at hx;obtain ⟨rfl,fx⟩:=hx;cases e with
   | fl b=>unfold Is at hy;obtain ⟨rfl,fy⟩:=hy;unfold eqD;exact bN rx ry fx fy
   | tup es =>
    unfold Is at hy;obtain ⟨b,ys,rfl,h1,h2⟩:=hy;cases ry;obtain ⟨its,r,ht,_⟩:=I.tuple h1;unfold eqD;rcases Ai fx with rfl | ⟨c,rfl⟩ | ⟨c,rfl⟩ | ⟨c,rfl⟩
    ·cases rx;exact EqAt.none_tuple ht hu
    ·cases rx;exact EqAt.bool_tuple c ht hu
    ·obtain ⟨t,rfl⟩:=rx;exact EqAt.int_tuple c t ht hu
    ·obtain ⟨t,rfl⟩:=rx;exact EqAt.str_tuple c t ht hu
   | lst es =>
    unfold Is at hy;obtain ⟨b,ys,rfl,h1,h2⟩:=hy;cases ry;obtain ⟨its,r,ht,_⟩:=I.list h1;unfold eqD;rcases Ai fx with rfl | ⟨c,rfl⟩ | ⟨c,rfl⟩ | ⟨c,rfl⟩
    ·cases rx;exact EqAt.none_list ht.isList hu
    ·cases rx;exact EqAt.bool_list c ht.isList hu
    ·obtain ⟨t,rfl⟩:=rx;exact EqAt.int_list c t ht.isList hu
    ·obtain ⟨t,rfl⟩:=rx;exact EqAt.str_list c t ht.isList hu
  | tup ds=>unfold D.dep at hd;omega
  | lst ds=>unfold D.dep at hd;omega
 | succ n ih =>
  intro A d e x y u v hd hu rx ry hx hy;have hu0:A.units < cLine:=by omega
  cases d with
  | fl a=>exact ih A (.fl a) e x y u v (by unfold D.dep;omega) (by omega) rx ry hx hy
  | tup ds =>
   unfold D.dep at hd;have hx0:=hx;unfold Is at hx;obtain ⟨a,xs,rfl,h1,h2⟩:=hx;cases rx;obtain ⟨its,r,ht,_⟩:=I.tuple h1;cases e with
   | fl b =>
    unfold Is at hy;obtain ⟨rfl,fy⟩:=hy;unfold eqD;rcases Ai fy with rfl | ⟨c,rfl⟩ | ⟨c,rfl⟩ | ⟨c,rfl⟩
    ·cases ry;exact EqAt.tuple_none ht hu0
    ·cases ry;exact EqAt.tuple_bool c ht hu0
    ·obtain ⟨t,rfl⟩:=ry;exact EqAt.tuple_int c t ht hu0
    ·obtain ⟨t,rfl⟩:=ry;exact EqAt.tuple_str c t ht hu0
   | tup es =>
    have hy0:=hy;unfold Is at hy;obtain ⟨b,ys,rfl,k1,k2⟩:=hy;cases ry;obtain ⟨its2,r2,ht2,_⟩:=I.tuple k1
    by_cases hab:a=b
    ·subst hab;rw [Is.inj I hx0 hy0,eqD_refl hy0];exact EqAt.same _
    ·refine EqAt.of_refs hab ?_;have q:=RcAt.tuples (e:=eAt ds es) ht ht2 hu0 (fun j j1 j2=>?_)
     ·have e1:=Bj ds es (eAt ds es) fun i a b q1 q2=>eAt_of q1 q2
      rw [jq,jq,<- r.length,<- r2.length,h2.length,k2.length,e1] at q;unfold eqD;exact q
     ·have j1':j < its.length:=by simpa using j1
      have j2':j < its2.length:=by simpa using j2
      have l1:j < ds.length:=by rw [<- h2.length,r.length];exact j1'
      have l2:j < es.length:=by rw [<- k2.length,r2.length];exact j2'
      obtain ⟨x',ex,px⟩:=h2.get (i:=j) (jl l1);obtain ⟨y',ey,py⟩:=k2.get (i:=j) (jl l2);obtain ⟨u',eu,ru⟩:=r.get ex;obtain ⟨v',ev,rv⟩:=r2.get ey;rw [eAt_of (jl l1) (jl l2)];have z1:its.toArray[j]=u':=by rw [jl j1'] at eu;simpa using Option.some.inj eu
      have z2:its2.toArray[j]=v':=by rw [jl j2'] at ev;simpa using Option.some.inj ev
      rw [z1,z2];exact ih A.in1 _ _ x' y' u' v' (kM (Eo (jl l1)) (by omega)) (by show A.units+1+n < cLine;omega) ru rv px py
   | lst es =>
    unfold Is at hy;obtain ⟨b,ys,rfl,k1,k2⟩:=hy;cases ry;obtain ⟨its2,r2,ht2,_⟩:=I.list k1;unfold eqD;exact EqAt.tuple_list ht ht2.isList hu0
  | lst ds =>
   unfold D.dep at hd;have hx0:=hx;unfold Is at hx;obtain ⟨a,xs,rfl,h1,h2⟩:=hx;cases rx;obtain ⟨its,r,ht,_⟩:=I.list h1;cases e with
   | fl b =>
    unfold Is at hy;obtain ⟨rfl,fy⟩:=hy;unfold eqD;rcases Ai fy with rfl | ⟨c,rfl⟩ | ⟨c,rfl⟩ | ⟨c,rfl⟩
    ·cases ry;exact EqAt.list_none ht.isList hu0
    ·cases ry;exact EqAt.list_bool c ht.isList hu0
    ·obtain ⟨t,rfl⟩:=ry;exact EqAt.list_int c t ht.isList hu0
    ·obtain ⟨t,rfl⟩:=ry;exact EqAt.list_str c t ht.isList hu0
   | tup es =>
    unfold Is at hy;obtain ⟨b,ys,rfl,k1,k2⟩:=hy;cases ry;obtain ⟨its2,r2,ht2,_⟩:=I.tuple k1;unfold eqD;exact EqAt.list_tuple ht.isList ht2 hu0
   | lst es =>
    have hy0:=hy;unfold Is at hy;obtain ⟨b,ys,rfl,k1,k2⟩:=hy;cases ry;obtain ⟨its2,r2,ht2,_⟩:=I.list k1
    by_cases hab:a=b
    ·subst hab;rw [Is.inj I hx0 hy0,eqD_refl hy0];exact EqAt.same _
    ·refine EqAt.of_refs hab ?_
     by_cases hsz:ds.length=es.length
     ·have e1:=Bj ds es (eAt ds es) fun i a b q1 q2=>eAt_of q1 q2
      rw [hsz,mQ,beq_self_eq_true,Bool.and_true] at e1;have q:=RcAt.lists (e:=eAt ds es) ht.isList ht2.isList (by rw [jq,jq,<- r.length,<- r2.length,h2.length,k2.length];exact hsz) hu0 (fun j j1 j2=>?_)
      ·rw [jq,<- r.length,h2.length,hsz,e1] at q;unfold eqD;exact q
      ·have j1':j < its.length:=by simpa using j1
       have j2':j < its2.length:=by simpa using j2
       have l1:j < ds.length:=by rw [<- h2.length,r.length];exact j1'
       have l2:j < es.length:=by rw [<- k2.length,r2.length];exact j2'
       obtain ⟨x',ex,px⟩:=h2.get (i:=j) (jl l1);obtain ⟨y',ey,py⟩:=k2.get (i:=j) (jl l2);obtain ⟨u',eu,ru⟩:=r.get ex;obtain ⟨v',ev,rv⟩:=r2.get ey;rw [eAt_of (jl l1) (jl l2)];have z1:its.toArray[j]=u':=by rw [jl j1'] at eu;simpa using Option.some.inj eu
       have z2:its2.toArray[j]=v':=by rw [jl j2'] at ev;simpa using Option.some.inj ev
       rw [z1,z2];exact ih A.in1 _ _ x' y' u' v' (kM (Eo (jl l1)) (by omega)) (by show A.units+1+n < cLine;omega) ru rv px py
     ·have q:=RcAt.lists_lengths (A:=A) ht.isList ht2.isList (by rw [jq,jq,<- r.length,<- r2.length,h2.length,k2.length];simpa using hsz) hu0;have e1:=Bj ds es (eAt ds es) fun i a b q1 q2=>eAt_of q1 q2
      have:(ds.length == es.length)=false:=by simpa using hsz
      rw [this,mx] at e1;unfold eqD;rw [<- e1];exact q
end
noncomputable def D.seq:D->Bool
 | .fl _=>false
 | _=>true
section
variable {X:Cx} {pins:List (Addr×Obj)} {σ:St} {H:Hp} {s:Shared}
theorem Kz (I:Inv X pins σ H s) {n:Nat} {A:Around} {xs ys:List V} {ds es:List D} {its its2:List Value} (hd:depL ds<=n) (hu:A.units+1+n < cLine) (r:AD xs its) (r2:AD ys its2) (h2:IsL X.K H xs ds) (k2:IsL X.K H ys es) :
    ∀ j (h1:j < its.toArray.size) (h2:j < its2.toArray.size),EqAt A.in1 s its.toArray[j] its2.toArray[j] (eAt ds es j):=fun j j1 j2=>by
  have j1':j < its.length:=by simpa using j1
  have j2':j < its2.length:=by simpa using j2
  have l1:j < ds.length:=by rw [<- h2.length,r.length];exact j1'
  have l2:j < es.length:=by rw [<- k2.length,r2.length];exact j2'
  obtain ⟨x',ex,px⟩:=h2.get (i:=j) (jl l1);obtain ⟨y',ey,py⟩:=k2.get (i:=j) (jl l2);obtain ⟨u',eu,ru⟩:=r.get ex;obtain ⟨v',ev,rv⟩:=r2.get ey;rw [eAt_of (jl l1) (jl l2)];have z1:its.toArray[j]=u':=by rw [jl j1'] at eu;simpa using Option.some.inj eu
  have z2:its2.toArray[j]=v':=by rw [jl j2'] at ev;simpa using Option.some.inj ev
  rw [z1,z2];exact Tn I n A.in1 _ _ x' y' u' v' (kM (Eo (jl l1)) hd) (by show A.units+1+n < cLine;exact hu) ru rv px py
theorem JK (I:Inv X pins σ H s) {A:Around} {d e:D} {x y:V} {u v:Value} (sd:d.seq=true) (se:e.seq=true) (hu:A.units+d.dep+1 < cLine) (rx:RelV x u) (ry:RelV y v) (hx:Is X.K H x d) (hy:Is X.K H y e):RcAt A s u v (eqD d e)/\RcNeAt A s u v (!eqD d e):=by
 have hu0:A.units < cLine:=by omega
 cases d with
 | fl a=>cases sd
 | tup ds =>
  unfold D.dep at hu;unfold Is at hx;obtain ⟨a,xs,rfl,h1,h2⟩:=hx;cases rx;obtain ⟨its,r,ht,_⟩:=I.tuple h1;cases e with
  | fl b=>cases se
  | tup es =>
   unfold Is at hy;obtain ⟨b,ys,rfl,k1,k2⟩:=hy;cases ry;obtain ⟨its2,r2,ht2,_⟩:=I.tuple k1;have e1:=Bj ds es (eAt ds es) fun i a b q1 q2=>eAt_of q1 q2
   have it:=Kz I (A:=A) (n:=depL ds) (ju _) (by omega) r r2 h2 k2;have q:=RcAt.tuples (e:=eAt ds es) ht ht2 hu0 it;have q':=RcNeAt.tuples (e:=eAt ds es) ht ht2 hu0 it;rw [jq,jq,<- r.length,<- r2.length,h2.length,k2.length,e1] at q q';unfold eqD;exact ⟨q,q'⟩
  | lst es =>
   unfold Is at hy;obtain ⟨b,ys,rfl,k1,k2⟩:=hy;cases ry;obtain ⟨its2,r2,ht2,_⟩:=I.list k1;unfold eqD;exact ⟨RcAt.tuple_list ht ht2.isList hu0,RcNeAt.tuple_list ht ht2.isList hu0⟩
 | lst ds =>
  unfold D.dep at hu;unfold Is at hx;obtain ⟨a,xs,rfl,h1,h2⟩:=hx;cases rx;obtain ⟨its,r,ht,_⟩:=I.list h1;cases e with
  | fl b=>cases se
  | tup es =>
   unfold Is at hy;obtain ⟨b,ys,rfl,k1,k2⟩:=hy;cases ry;obtain ⟨its2,r2,ht2,_⟩:=I.tuple k1;unfold eqD;exact ⟨RcAt.list_tuple ht.isList ht2 hu0,RcNeAt.list_tuple ht.isList ht2 hu0⟩
  | lst es =>
   unfold Is at hy;obtain ⟨b,ys,rfl,k1,k2⟩:=hy;cases ry;obtain ⟨its2,r2,ht2,_⟩:=I.list k1;have e1:=Bj ds es (eAt ds es) fun i a b q1 q2=>eAt_of q1 q2
   unfold eqD
   by_cases hsz:ds.length=es.length
   ·rw [hsz,mQ,beq_self_eq_true,Bool.and_true] at e1;have it:=Kz I (A:=A) (n:=depL ds) (ju _) (by omega) r r2 h2 k2;have sz:its.toArray.size=its2.toArray.size:=by rw [jq,jq,<- r.length,<- r2.length,h2.length,k2.length];exact hsz
    have q:=RcAt.lists (e:=eAt ds es) ht.isList ht2.isList sz hu0 it;have q':=RcNeAt.lists (e:=eAt ds es) ht.isList ht2.isList sz hu0 it;rw [jq,<- r.length,h2.length,hsz,e1] at q q';exact ⟨q,q'⟩
   ·have sz:(its.toArray.size != its2.toArray.size)=true:=by rw [jq,jq,<- r.length,<- r2.length,h2.length,k2.length];simpa using hsz
    have:(ds.length == es.length)=false:=by simpa using hsz
    rw [this,mx] at e1;rw [<- e1];exact ⟨RcAt.lists_lengths ht.isList ht2.isList sz hu0,RcNeAt.lists_lengths ht.isList ht2.isList sz hu0⟩
end
section
variable {X:Cx} {pins:List (Addr×Obj)} {σ:L2.St} {H:Hp} {s:Shared}
theorem Vc {A:Around} {x y:V} {u v:Value} (rx:RelV x u) (ry:RelV y v) (fx:EH x=true) (fy:EH y=true):RcAt A s u v (eqV x y)/\RcNeAt A s u v (!eqV x y):=by
 rcases Ai fx with rfl | ⟨c,rfl⟩ | ⟨c,rfl⟩ | ⟨c,rfl⟩<;>rcases Ai fy with rfl | ⟨d,rfl⟩ | ⟨d,rfl⟩ | ⟨d,rfl⟩
 ·cases rx;cases ry;exact ⟨RcAt.none_none , RcNeAt.none_none ⟩
 ·cases rx;cases ry;exact ⟨RcAt.none_bool d,RcNeAt.none_bool d⟩
 ·cases rx;obtain ⟨dt,rfl⟩:=ry;exact ⟨RcAt.none_int d dt,RcNeAt.none_int d dt⟩
 ·cases rx;obtain ⟨dt,rfl⟩:=ry;exact ⟨RcAt.none_str d dt,RcNeAt.none_str d dt⟩
 ·cases rx;cases ry;exact ⟨RcAt.bool_none c,RcNeAt.bool_none c⟩
 ·cases rx;cases ry;exact ⟨RcAt.bool_bool c d,RcNeAt.bool_bool c d⟩
 ·cases rx;obtain ⟨dt,rfl⟩:=ry;exact ⟨RcAt.bool_int c d dt,RcNeAt.bool_int c d dt⟩
 ·cases rx;obtain ⟨dt,rfl⟩:=ry;exact ⟨RcAt.bool_str c d dt,RcNeAt.bool_str c d dt⟩
 ·obtain ⟨ct,rfl⟩:=rx;cases ry;exact ⟨RcAt.int_none c ct,RcNeAt.int_none c ct⟩
 ·obtain ⟨ct,rfl⟩:=rx;cases ry;exact ⟨RcAt.int_bool c ct d,RcNeAt.int_bool c ct d⟩
 ·obtain ⟨ct,rfl⟩:=rx;obtain ⟨dt,rfl⟩:=ry;exact ⟨RcAt.int_int c ct d dt,RcNeAt.int_int c ct d dt⟩
 ·obtain ⟨ct,rfl⟩:=rx;obtain ⟨dt,rfl⟩:=ry;exact ⟨RcAt.int_str c ct d dt,RcNeAt.int_str c ct d dt⟩
 ·obtain ⟨ct,rfl⟩:=rx;cases ry;exact ⟨RcAt.str_none c ct,RcNeAt.str_none c ct⟩
 ·obtain ⟨ct,rfl⟩:=rx;cases ry;exact ⟨RcAt.str_bool c ct d,RcNeAt.str_bool c ct d⟩
 ·obtain ⟨ct,rfl⟩:=rx;obtain ⟨dt,rfl⟩:=ry;exact ⟨RcAt.str_int c ct d dt,RcNeAt.str_int c ct d dt⟩
 ·obtain ⟨ct,rfl⟩:=rx;obtain ⟨dt,rfl⟩:=ry;exact ⟨RcAt.str_str c ct d dt,RcNeAt.str_str c ct d dt⟩
theorem KW (I:Inv X pins σ H s) {A:Around} {d e:D} {x y:V} {u v:Value} (hu:A.units+d.dep+1 < cLine) (rx:RelV x u) (ry:RelV y v) (hx:Is X.K H x d) (hy:Is X.K H y e):RcAt A s u v (eqD d e)/\RcNeAt A s u v (!eqD d e):=by
 have hu0:A.units < cLine:=by omega
 cases d with
 | fl a =>
  unfold Is at hx;obtain ⟨rfl,fx⟩:=hx;cases e with
  | fl b =>
   unfold Is at hy;obtain ⟨rfl,fy⟩:=hy;unfold eqD;exact Vc rx ry fx fy
  | tup es =>
   unfold Is at hy;obtain ⟨b,ys,rfl,k1,k2⟩:=hy;cases ry;obtain ⟨its2,r2,ht2,_⟩:=I.tuple k1;unfold eqD;rcases Ai fx with rfl | ⟨c,rfl⟩ | ⟨c,rfl⟩ | ⟨c,rfl⟩
   ·cases rx;exact ⟨RcAt.none_tuple ht2 hu0,RcNeAt.none_tuple ht2 hu0⟩
   ·cases rx;exact ⟨RcAt.bool_tuple c ht2 hu0,RcNeAt.bool_tuple c ht2 hu0⟩
   ·obtain ⟨t,rfl⟩:=rx;exact ⟨RcAt.int_tuple c t ht2 hu0,RcNeAt.int_tuple c t ht2 hu0⟩
   ·obtain ⟨t,rfl⟩:=rx;exact ⟨RcAt.str_tuple c t ht2 hu0,RcNeAt.str_tuple c t ht2 hu0⟩
  | lst es =>
   unfold Is at hy;obtain ⟨b,ys,rfl,k1,k2⟩:=hy;cases ry;obtain ⟨its2,r2,ht2,_⟩:=I.list k1;unfold eqD;rcases Ai fx with rfl | ⟨c,rfl⟩ | ⟨c,rfl⟩ | ⟨c,rfl⟩
   ·cases rx;exact ⟨RcAt.none_list ht2.isList hu0,RcNeAt.none_list ht2.isList hu0⟩
   ·cases rx;exact ⟨RcAt.bool_list c ht2.isList hu0,RcNeAt.bool_list c ht2.isList hu0⟩
   ·obtain ⟨t,rfl⟩:=rx;exact ⟨RcAt.int_list c t ht2.isList hu0,RcNeAt.int_list c t ht2.isList hu0⟩
   ·obtain ⟨t,rfl⟩:=rx;exact ⟨RcAt.str_list c t ht2.isList hu0,RcNeAt.str_list c t ht2.isList hu0⟩
 | tup ds =>
  cases e with
  | fl b =>
   unfold Is at hx hy;obtain ⟨b',ys,rfl,k1,k2⟩:=hx;obtain ⟨rfl,fy⟩:=hy;cases rx;obtain ⟨its2,r2,ht2,_⟩:=I.tuple k1;unfold eqD;rcases Ai fy with rfl | ⟨c,rfl⟩ | ⟨c,rfl⟩ | ⟨c,rfl⟩
   ·cases ry;exact ⟨RcAt.tuple_none ht2 hu0,RcNeAt.tuple_none ht2 hu0⟩
   ·cases ry;exact ⟨RcAt.tuple_bool c ht2 hu0,RcNeAt.tuple_bool c ht2 hu0⟩
   ·obtain ⟨t,rfl⟩:=ry;exact ⟨RcAt.tuple_int c t ht2 hu0,RcNeAt.tuple_int c t ht2 hu0⟩
   ·obtain ⟨t,rfl⟩:=ry;exact ⟨RcAt.tuple_str c t ht2 hu0,RcNeAt.tuple_str c t ht2 hu0⟩
  | tup es=>exact JK I rfl rfl hu rx ry hx hy
  | lst es=>exact JK I rfl rfl hu rx ry hx hy
 | lst ds =>
  cases e with
  | fl b =>
   unfold Is at hx hy;obtain ⟨b',ys,rfl,k1,k2⟩:=hx;obtain ⟨rfl,fy⟩:=hy;cases rx;obtain ⟨its2,r2,ht2,_⟩:=I.list k1;unfold eqD;rcases Ai fy with rfl | ⟨c,rfl⟩ | ⟨c,rfl⟩ | ⟨c,rfl⟩
   ·cases ry;exact ⟨RcAt.list_none ht2.isList hu0,RcNeAt.list_none ht2.isList hu0⟩
   ·cases ry;exact ⟨RcAt.list_bool c ht2.isList hu0,RcNeAt.list_bool c ht2.isList hu0⟩
   ·obtain ⟨t,rfl⟩:=ry;exact ⟨RcAt.list_int c t ht2.isList hu0,RcNeAt.list_int c t ht2.isList hu0⟩
   ·obtain ⟨t,rfl⟩:=ry;exact ⟨RcAt.list_str c t ht2.isList hu0,RcNeAt.list_str c t ht2.isList hu0⟩
  | tup es=>exact JK I rfl rfl hu rx ry hx hy
  | lst es=>exact JK I rfl rfl hu rx ry hx hy
def rEqA (K:W.Frag) (neg:Bool):R2:=fun x y H Q=>∃ d e,d.dep<=150/\Is K H x d/\Is K H y e/\Q (.bl (if neg then !eqD d e else eqD d e)) H
theorem op_eqA {j:Nat} (hr:Room j X.A):CQ X (compareOp .Eq) (rEqA X.K false):=by
 intro pins s σ H x y v u Q I rx ry h;obtain ⟨d,e,hd,hx,hy,q⟩:=h;have:=hr.un;exact (KW I (by omega) rx ry hx hy).1 X.prog X.w _ _ ⟨.bl _,H,I,rfl,q⟩
theorem op_neA {j:Nat} (hr:Room j X.A):CQ X (compareOp .NotEq) (rEqA X.K true):=by
 intro pins s σ H x y v u Q I rx ry h;obtain ⟨d,e,hd,hx,hy,q⟩:=h;have:=hr.un;exact (KW I (by omega) rx ry hx hy).2 X.prog X.w _ _ ⟨.bl _,H,I,rfl,q⟩
open Classical in
def eqW (its:List Value) (ds:List D) (e:D) (u:Value):Bool:=decide (∃ (i:Nat) (d:D),its[i]?=some u/\ds[i]?=some d/\eqD d e=true)
open Classical in
theorem eqW_at (I:Inv X pins σ H s) {xs:List V} {its:List Value} {ds:List D} (r:AD xs its) (h:IsL X.K H xs ds) {e:D} {i:Nat} {u:Value} {d:D} (hu:its[i]?=some u) (hd:ds[i]?=some d):eqW its ds e u=eqD d e:=by
 have key:∀ (j:Nat) (d':D),its[j]?=some u->ds[j]?=some d'->d'=d:=fun j d' h1 h2=>by
  obtain ⟨x,ex,px⟩:=h.get hd;obtain ⟨y,ey,py⟩:=h.get h2;obtain ⟨u1,e1,r1⟩:=r.get ex;obtain ⟨u2,e2,r2⟩:=r.get ey;rw [hu] at e1;cases e1;rw [h1] at e2;cases e2;rw [r2.inj r1] at py;exact Is.inj I py px
 unfold eqW;cases q:eqD d e with
 | true=>exact decide_eq_true ⟨i,d,hu,hd,q⟩
 | false =>
  refine decide_eq_false ?_;rintro ⟨j,d',h1,h2,h3⟩;rw [key j d' h1 h2,q] at h3;cases h3
theorem Oq (I:Inv X pins σ H s) {xs:List V} {its:List Value} {ds:List D} (r:AD xs its) (h:IsL X.K H xs ds) (e:D):its.any (eqW its ds e)=ds.any fun d=>eqD d e:=by
 rw [Bool.eq_iff_iff,List.any_eq_true,List.any_eq_true];have hl:its.length=ds.length:=by rw [<- r.length,h.length]
 constructor
 ·rintro ⟨u,hu,q⟩;obtain ⟨i,hi,rfl⟩:=mW hu;have hd:ds[i]?=some ds[i]:=jl (by omega);rw [eqW_at I r h (jl hi) hd] at q;exact ⟨_,kh hd,q⟩
 ·rintro ⟨d,hd,q⟩;obtain ⟨i,hi,rfl⟩:=mW hd;have hu:its[i]?=some its[i]:=jl (by omega);exact ⟨_,kh hu,by rw [eqW_at I r h hu (jl hi)];exact q⟩
theorem all_eqW (I:Inv X pins σ H s) {A:Around} {xs:List V} {its:List Value} {ds:List D} (r:AD xs its) (h:IsL X.K H xs ds) {e:D} {y:V} {v:Value} (ry:RelV y v) (hy:Is X.K H y e) (hd:depL ds<=150) (hu:A.units+150 < cLine):∀ w∈its,EqAt A s w v (eqW its ds e w):=fun w hw=>by
 obtain ⟨i,hi,rfl⟩:=mW hw;have hl:its.length=ds.length:=by rw [<- r.length,h.length]
 have hdi:ds[i]?=some ds[i]:=jl (by omega);rw [eqW_at I r h (jl hi) hdi];obtain ⟨x,ex,px⟩:=h.get hdi;obtain ⟨u1,e1,r1⟩:=r.get ex;rw [jl hi] at e1;cases e1;exact Tn I 150 A _ _ x y _ _ (kM (Eo hdi) hd) hu r1 ry px hy
def rInA (K:W.Frag) (neg:Bool):R2:=fun x y H Q=>∃ p ys ds e,y=.ref p/\(CB K H p ys\/Cr K H p ys)/\IsL K H ys ds/\Is K H x e/\depL ds<=150/\Q (.bl (if neg then !(ds.any fun d=>eqD d e) else ds.any fun d=>eqD d e)) H
theorem op_inA {j:Nat} (hr:Room j X.A):CQ X (compareOp .In) (rInA X.K false):=by
 intro pins s σ H x y v u Q I rx ry h;obtain ⟨p,ys,ds,e,rfl,hq,hl,hx,hd,q⟩:=h;have hu:X.A.units+1+150 < cLine:=by have:=hr.un;omega
 cases ry;rcases hq with hq | hq
 ·obtain ⟨its,r,pl,hz⟩:=I.list hq;refine SeqAt.in_listAt (eqW its ds e) pl.isList (fun w hw=>all_eqW I r hl rx hx hd hu w (by simpa using hw)) ⟨.bl _,H,I,rfl,?_⟩;rw [show its.toArray.any (eqW its ds e)=its.any (eqW its ds e) by simp,Oq I r hl];exact q
 ·obtain ⟨its,r,pl,hz⟩:=I.tuple hq;refine SeqAt.in_tupleAt (eqW its ds e) pl (fun w hw=>all_eqW I r hl rx hx hd hu w (by simpa using hw)) ⟨.bl _,H,I,rfl,?_⟩;rw [show its.toArray.any (eqW its ds e)=its.any (eqW its ds e) by simp,Oq I r hl];exact q
end
end L3
namespace Q
open PySem L2
mutual
noncomputable def toD:Dt->L3.D
 | .non=>.fl .non
 | .bl b=>.fl (.bl b)
 | .int i=>.fl (.int i)
 | .str l=>.fl (.str (tx l))
 | .tup xs=>.tup (toDs xs)
 | .lst _ xs=>.lst (toDs xs)
 | _=>.fl .non
noncomputable def toDs:List Dt->List L3.D
 | []=>[]
 | d::ds=>toD d::toDs ds
end
mutual
noncomputable def Dt.cmp:Dt->Bool
 | .non=>true
 | .bl _=>true
 | .int _=>true
 | .str _=>true
 | .tup xs=>cmps xs
 | .lst _ xs=>cmps xs
 | _=>false
noncomputable def cmps:List Dt->Bool
 | []=>true
 | d::ds=>d.cmp && cmps ds
end
mutual
noncomputable def Dt.dep:Dt->Nat
 | .tup xs=>QR xs+1
 | .lst _ xs=>QR xs+1
 | _=>0
noncomputable def QR:List Dt->Nat
 | []=>0
 | d::ds=>max d.dep (QR ds)
end
mutual
noncomputable def eqT:Dt->Dt->Bool
 | .non,.non=>true
 | .bl a,.bl b=>a == b
 | .bl a,.int b=>(if a then 1 else 0) == b
 | .int a,.bl b=>a == (if b then 1 else 0)
 | .int a,.int b=>a == b
 | .str a,.str b=>a == b
 | .tup xs,.tup ys=>LK xs ys
 | .lst _ xs,.lst _ ys=>LK xs ys
 | _,_=>false
noncomputable def LK:List Dt->List Dt->Bool
 | [],[]=>true
 | x::xs,y::ys=>eqT x y && LK xs ys
 | _,_=>false
end
mutual
theorem YY:∀ (d e:Dt),d.cmp=true->e.cmp=true->L3.eqD (toD d) (toD e)=eqT d e
 | .non,e,h,k=>by cases e<;>first | (unfold toD L3.eqD eqT;rfl) | (unfold Dt.cmp at k;cases k)
 | .bl b,e,h,k=>by cases e<;>first | (unfold toD L3.eqD eqT;rfl) | (unfold Dt.cmp at k;cases k)
 | .int i,e,h,k=>by cases e<;>first | (unfold toD L3.eqD eqT;rfl) | (unfold Dt.cmp at k;cases k)
 | .str l,e,h,k=>by
  cases e with
  | str m=>unfold toD L3.eqD eqT;rw [eqV_str];exact (mU l m).symm
  | _=>first | (unfold toD L3.eqD eqT;rfl) | (unfold Dt.cmp at k;cases k)
 | .tup xs,e,h,k=>by
  cases e with
  | tup ys=>unfold toD L3.eqD eqT;unfold Dt.cmp at h k;exact Mt xs ys h k
  | _=>first | (unfold toD L3.eqD eqT;rfl) | (unfold Dt.cmp at k;cases k)
 | .lst o xs,e,h,k=>by
  cases e with
  | lst o' ys=>unfold toD L3.eqD eqT;unfold Dt.cmp at h k;exact Mt xs ys h k
  | _=>first | (unfold toD L3.eqD eqT;rfl) | (unfold Dt.cmp at k;cases k)
 | .dic o xs,e,h,k=>by unfold Dt.cmp at h;cases h
 | .ref o,e,h,k=>by unfold Dt.cmp at h;cases h
 | .scr o,e,h,k=>by unfold Dt.cmp at h;cases h
 | .ty o,e,h,k=>by unfold Dt.cmp at h;cases h
 | .mtp o,e,h,k=>by unfold Dt.cmp at h;cases h
 | .dti _ o,e,h,k=>by unfold Dt.cmp at h;cases h
theorem Mt:∀ (d e:List Dt),cmps d=true->cmps e=true->L3.eqDs (toDs d) (toDs e)=LK d e
 | [],[],_,_=>by unfold toDs L3.eqDs LK;rfl
 | [],_::_,_,_=>by simp only [toDs,L3.eqDs,LK]
 | _::_,[],_,_=>by simp only [toDs,L3.eqDs,LK]
 | x::xs,y::ys,h,k=>by
  unfold cmps at h k;rw [jh] at h k;simp only [toDs,L3.eqDs,LK];rw [YY x y h.1 k.1,Mt xs ys h.2 k.2]
end
mutual
theorem dep_D:∀ (d:Dt),(toD d).dep=d.dep
 | .non=>by unfold toD L3.D.dep Dt.dep;rfl
 | .bl b=>by unfold toD L3.D.dep Dt.dep;rfl
 | .int i=>by unfold toD L3.D.dep Dt.dep;rfl
 | .str l=>by unfold toD L3.D.dep Dt.dep;rfl
 | .tup xs=>by unfold toD L3.D.dep Dt.dep;rw [deps_D xs]
 | .lst o xs=>by unfold toD L3.D.dep Dt.dep;rw [deps_D xs]
 | .dic o xs=>by unfold toD L3.D.dep Dt.dep;rfl
 | .ref o=>by unfold toD L3.D.dep Dt.dep;rfl
 | .scr o=>by unfold toD L3.D.dep Dt.dep;rfl
 | .ty o=>by unfold toD L3.D.dep Dt.dep;rfl
 | .mtp o=>by unfold toD L3.D.dep Dt.dep;rfl
 | .dti _ o=>by unfold toD L3.D.dep Dt.dep;rfl
theorem deps_D:∀ (d:List Dt),L3.depL (toDs d)=QR d
 | []=>by unfold toDs L3.depL QR;rfl
 | x::xs=>by simp only [toDs,L3.depL,QR];rw [dep_D x,deps_D xs]
end
section
variable {K:W.Frag} {g:G} {H:Hp}
def aW (e:Dt) (ds:List Dt):Bool:=ds.any fun d=>eqT d e
def sub1 (x l:List Nat):Bool:=!(Builtin.Str.occurrences (tx l) (tx x) 0 (tx l).length 1).isEmpty
def eB (neg:Bool):R2:=fun x y H Q=>∃ i j,x=.str i/\y=.str j/\Q (.bl (if neg then !(!(Builtin.Str.occurrences j i 0 j.length 1).isEmpty) else !(Builtin.Str.occurrences j i 0 j.length 1).isEmpty)) H
def rInQ (K:W.Frag) (neg:Bool):R2:=fun x y H Q=>eB neg x y H Q\/L3.rInA K neg x y H Q
theorem anyD (e:Dt) (he:e.cmp=true):∀ (ds:List Dt),cmps ds=true->((toDs ds).any fun d=>L3.eqD d (toD e))=aW e ds
 | [],_=>by unfold toDs aW;rfl
 | d::ds,h=>by
  unfold cmps at h;rw [jh] at h;unfold aW;simp only [toDs,lS];rw [YY d e h.1 he,anyD e he ds h.2];rfl
noncomputable def mxI:List Int->Int
 | []=>0
 | [a]=>a
 | a::r=>max a (mxI r)
end
section
end
section
end
section
variable {K:W.Frag}
def rIndexD (K:W.Frag):V->List V->Hp->VK->Prop:=fun x vs H Q=>∃ p xs y ds e j,x=.ref p/\vs=[y]/\CB K H p xs/\L3.IsL K H xs ds/\L3.Is K H y e/\L3.depL ds<=150/\(∃ d,ds[j]?=some d/\L3.eqD d e=true)/\(∀ (m:Nat) (d:L3.D),m < j->ds[m]?=some d->L3.eqD d e=false)/\Q (.int (j:Nat)) H
theorem mt_indexD {X:Cx} {j:Nat} (hr:Room j X.A):cM X "list.index" (rIndexD X.K):=by
 intro pins s σ H x vs v us Q I rx rv h;obtain ⟨p,xs,y,ds,e,j,rfl,rfl,hp,hds,hy,hdp,⟨dj,ej,hit⟩,hno,q⟩:=h;cases rx;obtain ⟨u,rfl,ru⟩:=rv.one;obtain ⟨its,r,pl,hz⟩:=I.list hp;obtain ⟨⟨cls,dd,data,sl⟩,ho,hc,n,hd⟩:=pl.isList;simp only at hc hd;subst hc hd;have hu:X.A.units+1+150 < cLine:=by have:=hr.un;omega
 have hl:its.length=ds.length:=by rw [<- r.length,hds.length]
 have hj:j < ds.length:=(jo.mp ej).1;have hs:sizeLine=16777216:=sizeLine_eq;have hxl:=r.length;have Du:∀ m (hm:m < its.toArray.size),∃ d,ds[m]?=some d/\L3.eqW its ds e its.toArray[m]=L3.eqD d e:=fun m hm=>by
  have hm':m < its.length:=by simpa using hm
  have hd:ds[m]?=some ds[m]:=jl (by omega);exact ⟨ds[m],hd,by simpa using L3.eqW_at I r hds (jl hm') hd⟩
 refine call_meets F.slot_list_index ⟨_,ho,rfl⟩ F.entry_list_index (F.args_list_index_2 _ _)
  (SeqAt.list_indexAt p its.toArray n dd sl u (L3.eqW its ds e) j (by simpa [hl] using hj) (by omega) ?_ ?_) ⟨ho,fun w hw=>L3.all_eqW I r hds ru hy hdp hu w (by simpa using hw),⟨.int (j:Nat),H,I.tok _,⟨_,rfl⟩,q⟩⟩
 ·obtain ⟨w,e1,e2⟩:=Du j (by simpa [hl] using hj);rw [ej] at e1;cases e1;rw [e2];exact hit
 ·intro m hm hlt;obtain ⟨w,e1,e2⟩:=Du m hm;rw [e2];exact hno m w hlt e1
theorem toDs_get:∀ (ds:List Dt) (i:Nat),(toDs ds)[i]?=(ds[i]?).map toD
 | [],i=>by unfold toDs;simp
 | d::ds,0=>by unfold toDs;simp
 | d::ds,i+1=>by
  have:=toDs_get ds i;simp only [toDs,lh];exact this
def rIndexTD (K:W.Frag):V->List V->Hp->VK->Prop:=fun x vs H Q=>∃ p xs y ds e j,x=.ref p/\vs=[y]/\H p=some (.tup xs)/\L3.IsL K H xs ds/\L3.Is K H y e/\L3.depL ds<=150/\(∃ d,ds[j]?=some d/\L3.eqD d e=true)/\(∀ (m:Nat) (d:L3.D),m < j->ds[m]?=some d->L3.eqD d e=false)/\Q (.int (j:Nat)) H
theorem mt_indexTD {X:Cx} {j:Nat} (hr:Room j X.A):cM X "tuple.index" (rIndexTD X.K):=by
 intro pins s σ H x vs v us Q I rx rv h;obtain ⟨p,xs,y,ds,e,j,rfl,rfl,hp,hds,hy,hdp,⟨dj,ej,hit⟩,hno,q⟩:=h;cases rx;obtain ⟨u,rfl,ru⟩:=rv.one;obtain ⟨hz,its,r,⟨cls,dd,data,sl⟩,ho,hc,hdd,n,hd⟩:=I.hok p _ hp;simp only at hc hd;subst hc hd;have hu:X.A.units+1+150 < cLine:=by have:=hr.un;omega
 have hl:its.length=ds.length:=by rw [<- r.length,hds.length]
 have hj:j < ds.length:=(jo.mp ej).1;have Du:∀ m (hm:m < its.toArray.size),∃ d,ds[m]?=some d/\L3.eqW its ds e its.toArray[m]=L3.eqD d e:=fun m hm=>by
  have hm':m < its.length:=by simpa using hm
  have hd:ds[m]?=some ds[m]:=jl (by omega);exact ⟨ds[m],hd,by simpa using L3.eqW_at I r hds (jl hm') hd⟩
 refine call_meets F.slot_tuple_index ⟨_,ho,rfl⟩ F.entry_tuple_index (F.args_tuple_index_2 _ _)
  (He p its.toArray n dd sl u (L3.eqW its ds e) j (by simpa [hl] using hj) ?_ ?_) ⟨ho,fun w hw=>L3.all_eqW I r hds ru hy hdp hu w (by simpa using hw),⟨.int (j:Nat),H,I.tok _,⟨_,rfl⟩,q⟩⟩
 ·obtain ⟨w,e1,e2⟩:=Du j (by simpa [hl] using hj);rw [ej] at e1;cases e1;rw [e2];exact hit
 ·intro m hm hlt;obtain ⟨w,e1,e2⟩:=Du m hm;rw [e2];exact hno m w hlt e1
end
section
end
section
variable {K:W.Frag}
def rLeA:R2:=fun x y H Q=>(PQ fun i j=>.bl (decide (i<=j))) x y H Q\/∃ i j,x=.str i/\y=.str j/\Q (.bl (!decide (j.cps.toList < i.cps.toList))) H
theorem aM {X:Cx}:CQ X (compareOp .LtE) (fun x y H Q=>∃ i j,x=.str i/\y=.str j/\Q (.bl (!decide (j.cps.toList < i.cps.toList))) H):=by
 intro pins s σ H x y v u Q I rx ry h;obtain ⟨i,j,rfl,rfl,q⟩:=h;obtain ⟨t,rfl⟩:=rx;obtain ⟨t',rfl⟩:=ry;exact PySem.P.le_str ⟨.bl _,H,I,rfl,q⟩
theorem op_leAQ {X:Cx}:CQ X (compareOp .LtE) rLeA:=eX.or aM
end
section
end
section
end
theorem aN {X:Cx}:CQ X (compareOp .In) (eB false):=Pe
theorem op_inQ {X:Cx} {j:Nat} (hr:Room j X.A):CQ X (compareOp .In) (rInQ X.K false):=aN.or (L3.op_inA hr)
end Q
set_option maxHeartbeats 2000000
set_option maxHeartbeats 2000000
namespace L2
open PySem PySem.Spec PyProof.Rows
noncomputable def cT (ifs:List Expr) (env:Env):Sem Bool:=forIn ifs true fun c r=>if r=true then do let ok <- isTrue c env (eval c env);pure (ForInStep.yield ok) else pure (ForInStep.yield r)
def Uv (X:Cx) (ifs:List Expr) (t:TT):Prop:=
 ∀ (pins:List (Addr×Obj)) (s:Shared) (σ:St) (H:Hp) (Q:Bool->Hp->Prop),Inv X pins σ H s->t σ H Q->wpAny (model X.prog X.w) X.A (cT ifs X.env) (TP X pins σ Q) X.xe s
theorem Uv.one {X:Cx} {c:Expr} {t:TT} (h:PT X c t):Uv X [c] t:=fun pins s σ H Q I q=>wpAny_tests_one (h pins s σ H Q I q)
theorem Jf {prog:Program} {w:World} {A:Around} {R:Result->Shared->Prop} {s:Shared} {elt target iter:Expr} {ifs:List Expr} {scope:Scope} {pos:Pos} {it acc:Value} {env:Env} (I:Nat->Shared->Prop)
    (turn:∀ n s,I n s->wpAny (model prog w) A (pyNext it) (fun r s₁=>match r with
      | none=>R (.ok .next) s₁
      | some v=>wpAny (model prog w) A (letOwnedTupleGo target it v) (fun _ s₂=>wpAny (model prog w) A (assign target env v) (fun _ s₃=>wpAny (model prog w) A (cT ifs env) (fun ok s₄=>if ok=true then wpAny (model prog w) A (eval elt env) (fun x s₅ =>
          wpAny (model prog w) A (call (.builtin "list.append") [acc,x]) (fun _ s₆=>∃ m,m < n/\I m s₆) (fun _ _=>False) s₅) (fun _ _=>False) s₄ else ∃ m,m < n/\I m s₄) (fun _ _=>False) s₃) (fun _ _=>False) s₂) (fun _ _=>False) s₁) (fun _ _=>False) s)
    (n:Nat) (h:I n s) :
    codeAny (model prog w) A (.compLoop (.ListComp elt [⟨target,iter,ifs,0⟩] scope pos) 0 it acc env) R s:=by
  refine codeAny_loop rfl I (fun n s hI=>?_) n h;show wpAny _ _ ((compTurn (.ListComp elt [⟨target,iter,ifs,0⟩] scope pos) 0 it acc env).onRaise (fun x=>do noteFrame x env;theTreesLotGoes x)) _ _ s;refine wpAny_noted ?_;rw [compTurn_list];have no:∀ {E:Value->Shared->Prop},∀ (e:Value) (s:Shared),False->E e s:=fun _ _ z=>z.elim
  refine wpAny_bind (wpAny_standAt (wpAny_bind (wpAny_mono (turn n s hI) (fun r s₁ h₁=>?_) no)));cases r with
  | none=>exact wpAny_pure h₁
  | some v =>
    refine wpAny_bind (wpAny_mono h₁ (fun _ s₂ h₂=>?_) no);refine wpAny_bind (wpAny_mono h₂ (fun _ s₃ h₃=>wpAny_bind (wpAny_mono h₃ (fun ok s₄ h₄=>?_) no)) no);cases ok with
    | false=>exact wpAny_pure ⟨rfl,h₄⟩
    | true=>exact wpAny_bind (wpAny_bind (wpAny_mono h₄ (fun x s₅ h₅=>wpAny_bind (wpAny_mono h₅ (fun _ s₆ h₆=>wpAny_pure (wpAny_pure ⟨rfl,h₆⟩)) no)) no))
section
variable {X:Cx} {tg iter elt:Expr} {ifs:List Expr} {scope:Scope} {pos:Pos} {g:TG} {te:TE} {tc:TT} {js:List Nat} {wi:TI}
def NW (js:List Nat) (g:TG) (tc:TT) (te:TE) (J:It) (σ:St) (Fin:List V->Hp->Prop) (W:Nat->Nat->List V->Hp->Prop):Prop:=∀ i m ys H,W i m ys H ->
 (J.stop i H/\Fin ys H)\/(J.go i H/\ys.length < sizeLine/\∃ N:List V->Hp->Prop,(∀ zs H',N zs H'->∃ m',m' < m/\W (i+1) m' zs H')/\∀ x H',J.yld i H x H'->g x (blank js σ) H' fun σ2 H2=>tc σ2 H2 fun b H3=>if b=true then te σ2 H3 fun v H4=>N (ys++[v]) H4 else N ys H3)
theorem GA {pins:List (Addr×Obj)} {s2:Shared} {σ:St} {H2:Hp} {it:Addr} {fp:List Addr} {tn:Nat->Heap->Prop} {J:It} {cl:List (Str×Addr)} {W:Nat->Nat->List V->Hp->Prop} {Fin:List V->Hp->Prop} {E:Value->Shared->Prop} {RR:Value->Addr->Result->Shared->Prop}
    (hin:InnerIn X.N X.env.scope scope js) (hc:X.calm=true) (hg:∀ cl C s H fp,PG (X.inner scope cl C s H fp) tg g) (hgo:RB js g) (hcn:∀ cl C s H fp,Uv (X.inner scope cl C s H fp) ifs tc) (he:∀ cl C s H fp,PE (X.inner scope cl C s H fp) elt te)
    (I2:Inv X pins σ H2 s2) (T:Turn X.prog X.w X.K tg J fp it tn) (t0:tn 0 s2.heap) (hf:∀ b∈fp,FpOk X pins H2 b)
    (hcl:∀ x c,cl.lookup x=some c->X.env.cells.lookup x=some c) (hfr:∀ x,scope.names.lookup x=some .free->∃ c,cl.lookup x=some c)
    {m0:Nat} (w0:W 0 m0 [] H2) (turn:NW js g tc te J σ Fin W)
    (hRR:∀ D C s' H' ys m,Inv X pins σ (upd H' D (.lst ys)) s'->H' D=none->Fin ys H'->s'.heap.Ns C m->C≠X.env.locals->X.s₀.heap.objs.size<=C->(∀ x c,X.env.cells.lookup x=some c->c≠C)->(∀ p∈X.pn++pins,p.1≠C)->H' C=none->D≠C->RR (.ref D) C (.ok .next) s') :
    wpAny (model X.prog X.w) X.A (newList []) (fun acc s₃=>wpAny (model X.prog X.w) X.A (newFunctionEnv scope X.env.globals cl [] X.env.qual none .none (some X.env)) (fun cenv s₄ =>
      codeAny (model X.prog X.w) X.A (.compStart (.ListComp elt [⟨tg,iter,ifs,0⟩] scope pos) 0 (.ref it) acc { cenv with scope:=relabel scope X.env }) (RR acc cenv.locals) s₄) E s₃) E s2:=by
  have hfe:∀ b∈fp,b < s2.heap.objs.size:=fun b hb=>let ⟨_,e,_⟩:=T.obj _ _ t0 b hb;kF e
  refine wpAny_newObj_type (Bx ?_);dsimp only
  generalize hHH:s2.heap.push { cls:=.type "list", dict:=none,data:=.seq ([]:List Value).toArray }=HH
  have hC:HH.objs.size=s2.heap.objs.size+1:=by rw [<- hHH,lU]
  have hDC:s2.heap.objs.size≠HH.objs.size:=by rw [hC];exact kP (mj _)
  have hCle:s2.heap.objs.size<=HH.objs.size:=by rw [hC];exact lN _
  have below:∀ b,b < s2.heap.objs.size->b≠HH.objs.size/\b≠s2.heap.objs.size:=fun b hb=>⟨by rw [hC];exact kP (lp hb),kP hb⟩
  obtain ⟨h₁,hh₁⟩:∃ h₁,pushCells (HH.push { cls:=.type "dict", data:=.dict #[] }) scope.names=h₁:=⟨_,rfl⟩
  have old:∀ b o,s2.heap.get? b=some o->h₁.get? b=some o:=fun b o e=>hh₁▸pushCells_keeps _ _ b o (jm _ (hHH▸jm _ e))
  have hacc:h₁.get? s2.heap.objs.size=some { cls:=.type "list", data:=.seq ([]:List Value).toArray 0 }:=hh₁▸pushCells_keeps _ _ _ _ (jm _ (hHH▸kD _ rfl))
  have hns₁:h₁.Ns HH.objs.size (fun _=>none):=hh₁▸(Heap.Ns.new HH (.type "dict")).keeps (pushCells_keeps _ _)
  obtain ⟨L,hown⟩:=Ws (s:=s2) (C:=HH.objs.size) hin hcl hfr (h:=HH.push { cls:=.type "dict", data:=.dict #[] }) hCle (lU ..)
  rw [hh₁] at hown ⊢;generalize hcc:cellsFrom (HH.objs.size+1) scope.names cl=cl' at L hown ⊢;clear hh₁ hcc;generalize hDD:s2.heap.objs.size=D at *;generalize hCC:HH.objs.size=C at *;have hDle:s2.heap.objs.size<=D:=Nat.le_of_eq hDD;have hCle':s2.heap.objs.size<=C:=by rw [hDD];exact hCle
  have nocell:∀ (its:List Value) (n:Nat) v,({ cls:=.type "list", data:=.seq its.toArray n }:Obj).data≠.cell v:=fun _ _ _ z=>by cases z
  have I4:Inv (X.inner scope cl' C s2 H2 fp) (pins++[(D,{ cls:=.type "list", data:=.seq ([]:List Value).toArray 0 })]) (blank js σ) H2 { s2 with heap:=h₁,toks:=s2.toks }:=
    I2.enter hin hf (by rw [hDD];exact hfe) hCle' hDle hDC L hown old hns₁ hacc (nocell _ _)
  have stat:∀ {H':Hp} {o:Obj},(∀ b∈fp,H' b=none)->∀ b∈fp,FpOk (X.inner scope cl' C s2 H2 fp) (pins++[(D,o)]) H' b:=fun {H' o} hn b hb=>by
    obtain ⟨_,f1,f2,f3,f4,f5⟩:=hf b hb;refine ⟨hn b hb,(below b (hfe b hb)).1,fun z=>?_,.inl hb,fun x c e=>L.ne e (by rw [hDD];exact hfe b hb) f4,fun p hp=>?_⟩
    · rcases kZ.mp (I2.stkSub b z) with e | e
      · exact f1 e
      · exact f2 e
    · have hp':p∈X.pn++(pins++[(D,o)]):=hp;rw [<- kj] at hp';rcases kU.mp hp' with z | z
      · exact f5 p z
      · have e:p=(D,o):=by simpa using z
        subst e;exact fun z=>(below b (hfe b hb)).2 z.symm
  have loop:∀ s₃:Shared,s₃={ s2 with heap:=h₁,toks:=s2.toks } ->
      codeAny (model X.prog X.w) X.A (.compLoop (.ListComp elt [⟨tg,iter,ifs,0⟩] scope pos) 0 (.ref it) (.ref D) (compEnvC scope cl' C X.env)) (RR (.ref D) C) s₃:=by
    rintro s₃ rfl
    refine Jf (fun n s'=>∃ i ys its k H',Inv (X.inner scope cl' C s2 H2 fp) (pins++[(D,{ cls:=.type "list", data:=.seq its.toArray k })]) (blank js σ) H' s'/\tn i s'.heap/\(∀ b∈fp,H' b=none)/\AD ys its/\ys.length<=sizeLine/\W i n ys H') ?_ m0
      ⟨0,[],[],0,H2,I4,T.keep _ _ _ t0 fun b hb o e=>old b o e,fun b hb=>(hf b hb).1,.nil,kg _,w0⟩
    rintro n s3 ⟨i,ys,its,k,H3,I3,st3,fr3,hv3,hz3,w3⟩;rcases turn i n ys H3 w3 with ⟨stop,fin⟩ | ⟨go,hlt,N,hN,step⟩
    · refine Ae (T.done (X.inner scope cl' C s2 H2 fp) rfl rfl rfl hc i _ s3 _ H3 _ I3 (stat fr3) st3 stop) fun r s4 ⟨hr,I4⟩=>?_
      subst hr
      have pD:=I4.pin (D,{ cls:=.type "list", data:=.seq its.toArray k }) (jw _ (jw _ kA))
      obtain ⟨m,hn,_⟩:=id I4.loc;refine hRR D C s4 H3 ys m (I2.leave (fp:=fp) hf rfl I4 hDle pD.2.1 hz3 hv3 pD.1) pD.2.1 fin hn ?_ ?_ (fun x c e=>?_) (fun p hp=>?_) I4.free hDC
      · exact mE (kO I2.lt hCle')
      · exact kM I2.sz hCle'
      · exact kP (kO (I2.cellLt e) hCle')
      · exact kP (kO (I2.pinLt hp) hCle')
    · refine Ae (T.item (X.inner scope cl' C s2 H2 fp) rfl rfl rfl hc i _ s3 _ H3 _ I3 (stat fr3) st3 go) fun r s4 ⟨u,hr,h4⟩=>?_
      subst hr;refine Ae h4 fun _ s5 ⟨x,H5,I5,r5,y5,st5,fr5⟩=>?_
      have I5':=I5.pinned (stat fr5) (T.obj _ _ st5);refine Ae (hg cl' C s2 H2 fp _ s5 _ H5 x u _ I5' r5 (hgo _ _ _ _ (step x H5 y5))) fun _ s6 ⟨σ6,H6,I6,⟨hl6,hs6⟩,q6⟩=>?_
      refine Ae (hcn cl' C s2 H2 fp _ s6 σ6 H6 _ I6 q6) fun ok s6b ⟨H6b,I6b,q6b⟩=>?_
      have other:∀ (s7:Shared) (v:Value) (b:Addr) (u:Obj),b≠D->s7.heap.get? b=some u->(s7.heap.update D (Obj.mapSeq fun a=>a.push v)).get? b=some u:=fun s7 v b u hb hu=>(km s7.heap (Obj.mapSeq fun a=>a.push v) (Ne.symm hb)).trans hu
      cases ok with
      | false =>
        obtain ⟨m',hm,w7⟩:=hN _ _ q6b
        have pD:=I6b.pin (D,{ cls:=.type "list", data:=.seq its.toArray k }) (jw _ (kH _ (jw _ kA)))
        have fpk:∀ b∈fp,∀ o,s5.heap.get? b=some o->s6b.heap.get? b=some o/\H6b b=none:=fun b hb o e =>
          let z:=I6b.pin (b,o) (jw _ (jw _ (DC hb e)));⟨z.1,z.2.1⟩
        have I8:Inv (X.inner scope cl' C s2 H2 fp) pins (blank js σ) H6b s6b:=by
          have Ia:Inv (X.inner scope cl' C s2 H2 fp) pins σ6 H6b s6b:=I6b.pins_of fun p hp=>I6b.pin p (jw _ (kH _ (kH _ hp)))
          exact Ia.weak hl6.symm fun i v e=>by
            obtain ⟨hj,_⟩:=Fh js σ i v e;rw [hs6 i hj];exact e
        refine ⟨m',hm,i+1,ys,its,k,H6b,I8.pins_of (fun p hp=>?_),T.keep _ _ _ st5 fun b hb o e=>(fpk b hb o e).1,fun b hb=>?_,hv3,hz3,w7⟩
        · rcases kU.mp hp with z | z
          · exact I8.pin p (jw _ z)
          · have e:p=(D,_):=kY.mp z;subst e;exact ⟨pD.1,pD.2.1,pD.2.2.1,pD.2.2.2.1,nocell _ _⟩
        · obtain ⟨o,e,_⟩:=T.obj _ _ st5 b hb;exact (fpk b hb o e).2
      | true =>
      refine Ae (he cl' C s2 H2 fp _ s6b σ6 H6b _ I6b q6b) fun v s7 ⟨y,H7,I7,r7,n7⟩=>?_
      obtain ⟨m',hm,w7⟩:=hN _ _ n7
      have pD:=I7.pin (D,{ cls:=.type "list", data:=.seq its.toArray k }) (jw _ (kH _ (jw _ kA)))
      have lt:its.toArray.size<=sizeLine:=by rw [jq,<- hv3.length];exact hz3
      refine call_meets F.slot_list_append ⟨_,pD.1,rfl⟩ F.entry_list_append (F.args_list_append_2 _ _) (PySem.list_append D its.toArray k v lt) ⟨pD.1,?_⟩
      obtain ⟨k',q⟩:∃ k',(s7.heap.update D (Obj.mapSeq fun a=>a.push v)).get? D=some { cls:=.type "list", data:=.seq (its.toArray.push v) k' }:=⟨_,PySem.IsL.update pD.1 (fun a=>a.push v)⟩
      have eq:(its.toArray.push v)=(its++[v]).toArray:=by simp
      have fpk:∀ b∈fp,∀ o,s5.heap.get? b=some o->s7.heap.get? b=some o/\H7 b=none:=fun b hb o e =>
        let z:=I7.pin (b,o) (jw _ (jw _ (DC hb e)));⟨z.1,z.2.1⟩
      have other:∀ b u,b≠D->s7.heap.get? b=some u->(s7.heap.update D (Obj.mapSeq fun a=>a.push v)).get? b=some u:=fun b u hb hu=>(km s7.heap (Obj.mapSeq fun a=>a.push v) (Ne.symm hb)).trans hu
      have I8:Inv (X.inner scope cl' C s2 H2 fp) pins (blank js σ) H7 { s7 with heap:=s7.heap.update D (Obj.mapSeq fun a=>a.push v),toks:=s7.toks }:=by
        have Ia:Inv (X.inner scope cl' C s2 H2 fp) pins σ6 H7 s7:=I7.pins_of fun p hp=>I7.pin p (jw _ (kH _ (kH _ hp)))
        have Ib:Inv (X.inner scope cl' C s2 H2 fp) pins (blank js σ) H7 s7:=Ia.weak hl6.symm fun i v e=>by
          obtain ⟨hj,_⟩:=Fh js σ i v e;rw [hs6 i hj];exact e
        refine Ib.turned (it:=D) (fun b o hb e=>other b o hb e) pD.2.1 pD.2.2.1 (.inr hDle) (fun x c e=>?_) (fun p hp=>?_)
        · cases q:AM scope x with
          | false=>exact kP (kO (I2.cellLt (L.old x c e q)) hDle)
          | true=>exact mE (mX hCle (L.own x c e q).2)
        · exact kP (kO (I2.pinLt hp) hDle)
      refine ⟨m',hm,i+1,ys++[y],its++[v],k',H7,I8.pins_of (fun p hp=>?_),T.keep _ _ _ st5 fun b hb o e=>other b o (below b (hfe b hb)).2 (fpk b hb o e).1,fun b hb=>?_,hv3.append (.cons r7 .nil),by rw [kT,mR];omega,w7⟩
      · rcases kU.mp hp with z | z
        · exact I8.pin p (jw _ z)
        · have e:p=(D,_):=kY.mp z;subst e;rw [<- eq];exact ⟨q,pD.2.1,pD.2.2.1,pD.2.2.2.1,nocell _ _⟩
      · obtain ⟨o,e,_⟩:=T.obj _ _ st5 b hb;exact (fpk b hb o e).2
  exact codeAny_compStart_list (loop _ rfl) (T.self _ 0 _ _ _ (T.keep _ _ _ t0 fun b hb o e=>old b o e) (loop _ rfl))
def FC (wi:TI) (js:List Nat) (g:TG) (tc:TT) (te:TE):TE:=fun σ H Q=>wi σ H fun J H1=>∃ W:Nat->Nat->List V->Hp->Prop,(∃ m,W 0 m [] H1)/\NW js g tc te J σ (fun ys H=>∀ p,H p=none->Q (.ref p) (upd H p (.lst ys))) W
theorem Kl (hin:innerOk X.N X.env.scope scope js=true) (hc:X.calm=true) (hi:PI X tg iter wi) (hg:∀ cl C s H fp,PG (X.inner scope cl C s H fp) tg g) (hgo:RB js g) (hcn:∀ cl C s H fp,Uv (X.inner scope cl C s H fp) ifs tc) (he:∀ cl C s H fp,PE (X.inner scope cl C s H fp) elt te)
    (hs:∀ x,foldedSetIterable iter X.env x=pure x:=by intro _;rfl):PE X (.ListComp elt [⟨tg,iter,ifs,0⟩] scope pos) (FC wi js g tc te):=by
  intro pins s σ H Q I h;have hin:=HJ hin;obtain ⟨cl,hclos,hcl,hfr⟩:=HN (scope:=scope) (env:=X.env) (fun x hx=>I.ok.has x (hin.fr x hx)) hin.uniqF;rw [eval_ListComp];refine wpAny_comprehension_free (use:=none) rfl hs hclos hin.kind hin.uniqL ?_;refine Ae (hi pins s σ H _ I h) fun v s1 h1=>Ae h1 fun itv s2 h2=>?_
  obtain ⟨it,fp,tn,J,H2,e,I2,T,st2,f2,W,⟨m0,w0⟩,turn⟩:=h2;subst e;refine GA (RR:=fun acc C=>compPost (model X.prog X.w) X.A X.xe none (EP X pins σ Q) acc C) hin hc hg hgo hcn he I2 T st2 f2 hcl hfr w0 turn ?_;intro D C s' H' ys m I' hD fin hn c1 c2 c3 c4 c5 c6;refine ⟨m,hn,fun h' sb=>⟨.ref D,_,I'.turned (t':=s'.toks) (it:=C) (fun b o hb e=>(sb.2 b hb).trans e) ?_ c1 (.inr c2) c3 c4,rfl,fin D hD⟩⟩;rw [AO (Ne.symm c6)];exact c5
theorem Kf {i:Nat} {x:Str} {pos' spos:Pos} (hN:X.N.Nodup) (hix:X.N[i]?=some x) (hx:Loc X.env.scope x)
    (hin:innerOk X.N X.env.scope scope js=true) (hc:X.calm=true) (hi:PI X tg iter wi) (hg:∀ cl C s H fp,PG (X.inner scope cl C s H fp) tg g) (hgo:RB js g) (hcn:∀ cl C s H fp,Uv (X.inner scope cl C s H fp) ifs tc) (he:∀ cl C s H fp,PE (X.inner scope cl C s H fp) elt te)
    (hsw:swapsWith (.ListComp elt [⟨tg,iter,ifs,0⟩] scope pos) (some (.Name x pos')) spos.line X.env=pure true:=by rfl)
    (hs:∀ x,foldedSetIterable iter X.env x=pure x:=by intro _;rfl)
    (hf:X.fn x=true\/X.env.scope.names.lookup x=some .local:=by first | exact .inl rfl | exact .inr rfl | assumption) :
    PS X (.Assign [.Name x pos'] (.ListComp elt [⟨tg,iter,ifs,0⟩] scope pos) spos) (KF (FC wi js g tc te) (DX i)):=by
  intro pins s σ H D I h;have hin:=HJ hin;obtain ⟨cl,hclos,hcl,hfr⟩:=HN (scope:=scope) (env:=X.env) (fun x hx=>I.ok.has x (hin.fr x hx)) hin.uniqF;rw [exec_Assign_Name_used _ _ _ _ hsw];refine wpAny_bind (wpAny_standAt (wpAny_bind ?_));show wpAny _ _ (do let _ <- comprehension (.ListComp elt [⟨tg,iter,ifs,0⟩] scope pos) scope X.env _ (newList []) false (eval iter X.env) (some (assign (.Name x pos') X.env))) _ _ s;refine wpAny_bind (Ae (wpAny_comprehension_free (use:=some (assign (.Name x pos') X.env)) (Q:=fun _ s'=>SP X pins D .next s') rfl hs hclos hin.kind hin.uniqL ?_) (fun _ s' hq=>wpAny_pure (wpAny_pure hq)));refine Ae (hi pins s σ H _ I h) fun v s1 h1=>Ae h1 fun itv s2 h2=>?_
  obtain ⟨it,fp,tn,J,H2,e,I2,T,st2,f2,W,⟨m0,w0⟩,turn⟩:=h2;subst e;refine GA (RR:=fun acc C=>compPost (model X.prog X.w) X.A X.xe (some (assign (.Name x pos') X.env)) (fun _ s'=>SP X pins D .next s') acc C) hin hc hg hgo hcn he I2 T st2 f2 hcl hfr w0 turn ?_;intro DD C s' H' ys m I' hD fin hn c1 c2 c3 c4 c5 c6;show wpAny _ _ (assign (.Name x pos') X.env (.ref DD)) _ _ _;refine wpAny_assign_Name (ID (v:=.ref DD) I' hN hix hx rfl (fun s'' I'' ⟨a,sb,ha⟩=>?_) hf);have ne:C≠a:=by
    rcases ha with z | z
    · rw [z];exact c1
    · exact (c3 x a z).symm
  refine ⟨m,hn.sameBut sb ne,fun h' sb'=>⟨_,_,I''.turned (t':=s''.toks) (it:=C) (fun b o hb e=>(sb'.2 b hb).trans e) ?_ c1 (.inr c2) c3 c4,fin DD hD⟩⟩;rw [AO (Ne.symm c6)];exact c5
end
end L2
namespace R
open PySem L2
section
variable {γ:Type}
noncomputable def Et (g:Dv->γ->Option (Dv×γ)):List Dv->γ->Option (List Dv×γ)
 | [],c=>some ([],c)
 | x::xs,c=>(g x c).bind fun p=>(Et g xs p.2).bind fun q=>some (p.1::q.1,q.2)
noncomputable def EC (g:Dv->Option Dv):List Dv->Option (List Dv)
 | []=>some []
 | x::xs=>(g x).bind fun p=>(EC g xs).bind fun q=>some (p::q)
noncomputable def Od (g:Dv->γ->Option (Option Dv×γ)):List Dv->γ->Option (List Dv×γ)
 | [],c=>some ([],c)
 | x::xs,c=>(g x c).bind fun p=>(Od g xs p.2).bind fun q=>some (match p.1 with | some d=>d::q.1 | none=>q.1,q.2)
noncomputable def aX (g:Dv->Option (Option Dv)):List Dv->Option (List Dv)
 | []=>some []
 | x::xs=>(g x).bind fun p=>(aX g xs).bind fun q=>some (match p with | some d=>d::q | none=>q)
noncomputable def Ln {α:Type} (xs:List Dv) (o:Option α):Option α:=if xs.length<=1000000 then o else none
end
theorem En {α:Type} {xs:List Dv} {o:Option α} {a:α} (h:Ln xs o=some a):xs.length<=1000000/\o=some a:=by
 unfold Ln at h;split at h
 ·rename_i z;exact ⟨z,h⟩
 ·cases h
section
variable {K:W.Frag} {g g':G} {H H':Hp} {Γ:Gm} {m:M} {σ:St} {P:Fp}
theorem Rel.sub {Γ':Gm} {σ':St} (h:Rel K g H Γ m σ P) (hl:Γ'.length=Γ.length) (hs:σ'.length=σ.length) (k:∀ (i o:Nat),Γ'[i]?=some (some o)->Γ[i]?=some (some o)/\σ'[i]?=σ[i]?):∃ P',Rel K g H Γ' m σ' P'/\∀ a,P' a->P a:=by
 obtain ⟨zd,F,h1,h4⟩:=h;refine ⟨fun a=>∃ i,(∃ o,Γ'[i]?=some (some o))/\F i a,⟨zd,fun i a=>(∃ o,Γ'[i]?=some (some o))/\F i a,⟨by rw [hl];exact h1.l1,by rw [hs,hl];exact h1.l2,fun i o e=>?_,fun i e a q=>q.1.elim fun o z=>e o z,fun i j n a q z=>h1.dj i j n a q.2 z.2⟩,fun _=>Iff.rfl⟩,fun a ⟨i,_,q⟩=>(h4 a).mpr ⟨i,q⟩⟩;obtain ⟨e',es⟩:=k i o e;obtain ⟨d,v,e1,e2,r⟩:=h1.rep i o e';have eq:(fun a=>(∃ o,Γ'[i]?=some (some o))/\F i a)=F i:=funext fun a=>propext ⟨fun z=>z.2,fun z=>⟨⟨o,e⟩,z⟩⟩
 exact ⟨d,v,e1,by rw [es];exact e2,by show Rep K g H o d v fun a=>(∃ o,Γ'[i]?=some (some o))/\F i a;rw [eq];exact r⟩
theorem Rel.more {Γ':Gm} {σ':St} (h:Rel K g H Γ m σ P) (hl:Γ'.length=Γ.length) (hs:σ'.length=σ.length) (k:∀ (i o:Nat),Γ'[i]?=some (some o)->(Γ[i]?=some (some o)/\σ'[i]?=σ[i]?)\/(o=0/\∃ d v,m[i]?=some d/\σ'[i]?=some (some v)/\Rep K g H 0 d v nop)):∃ P',Rel K g H Γ' m σ' P'/\∀ a,P' a->P a:=by
 obtain ⟨zd,F,h1,h4⟩:=h
 let C:Nat->Prop:=fun i=>∃ o,Γ'[i]?=some (some o)/\Γ[i]?=some (some o)/\σ'[i]?=σ[i]?
 refine ⟨fun a=>∃ i,C i/\F i a,⟨zd,fun i a=>C i/\F i a,⟨by rw [hl];exact h1.l1,by rw [hs,hl];exact h1.l2,fun i o e=>?_,fun i e a q=>q.1.elim fun o z=>e o z.1,fun i j n a q z=>h1.dj i j n a q.2 z.2⟩,fun _=>Iff.rfl⟩,fun a ⟨i,_,q⟩=>(h4 a).mpr ⟨i,q⟩⟩
 by_cases c:C i
 ·obtain ⟨o',e1,e2,e3⟩:=c;rw [e] at e1;cases e1;obtain ⟨d,v,e4,e5,r⟩:=h1.rep i o e2;have eq:(fun a=>C i/\F i a)=F i:=funext fun a=>propext ⟨fun z=>z.2,fun z=>⟨⟨o,e,e2,e3⟩,z⟩⟩
  exact ⟨d,v,e4,by rw [e3];exact e5,by show Rep K g H o d v fun a=>C i/\F i a;rw [eq];exact r⟩
 ·have eq:(fun a=>C i/\F i a)=nop:=nop_iff fun a z=>c z.1
  rcases k i o e with z | ⟨rfl,d,v,e1,e2,r⟩
  ·exact (c ⟨o,e,z⟩).elim
  ·exact ⟨d,v,e1,e2,by show Rep K g H 0 d v fun a=>C i/\F i a;rw [eq];exact r⟩
end
def Le (js:List Nat) (Γ:Gm):Gm:=(List.range Γ.length).map fun i=>if js.contains i then none else Γ.getD i none
def KR (js:List Nat) (Γ1 Γ:Gm):Gm:=(List.range Γ.length).map fun i=>if js.contains i then (if Γ1.getD i none == some 0 then some 0 else none) else Γ.getD i none
theorem Dl {α:Type} {n i:Nat} {f:Nat->α} {x:α} (h:((List.range n).map f)[i]?=some x):i < n/\x=f i:=by
 rw [kN] at h
 by_cases z:i < n
 ·rw [lJ z] at h;exact ⟨z,(Option.some.inj h).symm⟩
 ·rw [List.getElem?_eq_none_iff.mpr (by simpa using z)] at h;cases h
theorem Az {Γ:Gm} {i o:Nat} (h:Γ.getD i none=some o):Γ[i]?=some (some o):=by
 rw [kL] at h;cases e:Γ[i]? with
 | none=>rw [e] at h;cases h
 | some x=>rw [e] at h;exact congrArg some h
theorem DG {js:List Nat} {Γ:Gm} {i o:Nat} (h:(Le js Γ)[i]?=some (some o)):i∉js/\Γ[i]?=some (some o):=by
 obtain ⟨_,e⟩:=Dl h;split at e
 ·cases e
 ·rename_i z;exact ⟨fun q=>z (jy.mpr q),Az e.symm⟩
theorem Il (js:List Nat):∀ (σ:St) (i:Nat),i∉js->(L2.blank js σ)[i]?=σ[i]?:=by
 induction js with
 | nil=>intro σ i _;rfl
 | cons j js ih =>
  intro σ i h;show (L2.blank js (σ.set j none))[i]?=_;rw [ih _ i fun z=>h (kB _ z),kQ fun z=>h (by rw [<- z];exact kA)]
theorem Er {K:W.Frag} {Γ1 Γl Γt Γc Γf:Gm} {jx jt jc jf J:List Nat} {g:TG} {ft:Tg} {c:Ev Bool} {f:Ev Dv} (ht:NT K Γl Γt jt g ft) (hbl:BY Γl (Le jx Γ1)=true) (hwf:BY Γl Γf=true) (hwc:BY Γl Γc=true) (hsx:∀ i∈jt,i∈jx)
    (hJ:J=Av Γl (jt++(jc++jf))) {ds:List Dv} (hz:ds.length<=1000000) {m1:M} {σ:St} {H1:Hp} {g1:G} {P1:Fp} {I:It} {R:Type} {k:Dv->M->Option R} {res:R} {Q:VK}
    (r1:Rel K g1 H1 Γ1 m1 σ P1) (yl:Yl K I ds g1 H1) (run:List Dv->EF J->List Dv->Prop) (h0:run ds (AV J m1) []) (hn:∀ t ya,run [] t ya->k (.lst ya) (AZ J m1 t)=some res)
    (hc:∀ d ds t ya,run (d::ds) t ya->∃ (B:Type) (kx:Dv->M->Option B) (kf:M->Option B) (r:B),ft B d (AZ J m1 t) (fun m2=>c B m2 fun b m3=>if b=true then f B m3 kx else kf m3)=some r/\(∀ x m',kx x m'=some r->run ds (AV J m') (ya++[x]))/\∀ m',kf m'=some r->run ds (AV J m') ya)
    (q:∀ d m' g' P' Pv v H',k d m'=some res->Bd (jt++(jc++jf)) m1 m'->Step g1 P1 H1 g' (fun a=>P' a\/Pv a) H'->Rep K g' H' 1 d v Pv->Rel K g' H' (KR jx Γ1 Γl) m' σ P'->Disj P' Pv->Q v H') :
    ∃ W:Nat->Nat->List V->Hp->Prop,(∃ m,W 0 m [] H1)/\NW jx g (tT K Γt Γc jc c) (tE K Γc 0 Γf jf f) I σ (fun ys H=>∀ p,H p=none->Q (.ref p) (upd H p (.lst ys))) W:=by
  have sub:∀ i∈J,i∈jt++(jc++jf):=fun i h=>Au (hJ▸h)
  have nJ:∀ i∈J,i∉jx:=fun i h z=>by
    rw [hJ] at h;have:=(lg.mp h).2;rw [jh] at this;cases e:Γl.getD i none with
    | none=>rw [e] at this;cases this.2
    | some o =>
      obtain ⟨o',e',_⟩:=Ek hbl (Az e);exact (DG e').1 z
  have lb:(Le jx Γ1).length=Γ1.length:=by unfold Le;simp
  obtain ⟨Pb,rb,sb⟩:=r1.sub (Γ':=Le jx Γ1) (σ':=L2.blank jx σ) lb (L2.blank_length ..) fun i o e=>⟨(DG e).2,Il jx σ i (DG e).1⟩
  obtain ⟨g0,P0,s0,r0⟩:=rb.weaken hbl;have s10:Step g1 P1 H1 g0 P0 H1:=s0.sub sb fun _ z=>z
  refine ⟨fun i j ys H=>j=ds.length - i/\i<=ds.length/\ys.length<=i/\∃ g2 t P2 ya,Step g1 P1 H1 g2 P2 H/\Rel K g2 H Γl (AZ J m1 t) (L2.blank jx σ) P2/\Reps K g2 H 0 ya ys nop/\run (ds.drop i) t ya,
    ⟨ds.length,by simp,kg _,kg _,g0,AV J m1,P0,[],s10,Mj r0,Reps.nil,by simpa using h0⟩,?_⟩
  rintro i j ys H2 ⟨rfl,hi,hyl,g2,t,P2,ya,s2,r2,ry,e2⟩;have st:HY g1 H1 g2 H2:=⟨P1,P2,s2,r1.fpOk⟩
  by_cases hlt:i < ds.length
  · rw [mH hlt] at e2;obtain ⟨B,kx,kf,rB,e3,hx,hf⟩:=hc _ _ _ _ e2;obtain ⟨go,yy⟩:=(yl g2 H2 st).1 i ds[i] (jl hlt);refine .inr ⟨go,mX hyl (kO hlt (kM hz (by decide))),fun zs H'=>zs.length<=i+1/\∃ g5 P5 m' za,Step g1 P1 H1 g5 P5 H'/\Rel K g5 H' Γl m' (L2.blank jx σ) P5/\Bd (jt++(jc++jf)) m1 m'/\Reps K g5 H' 0 za zs nop/\run (ds.drop (i+1)) (AV J m') za,?_,fun y H3 hy=>?_⟩
    · rintro zs H' ⟨hl,g5,P5,m',za,s5,r5,ag,rz,hr⟩;exact ⟨ds.length - (i+1),by omega,rfl,hlt,hl,g5,AV J m',P5,za,s5,r5.join ag fun i o h=>hJ▸BM h,rz,hr⟩
    · obtain ⟨Pv,s3,h3,r3,n3⟩:=AW.go s2 r2 (yy y H3 hy);have ry3:Reps K g2 H3 0 ya ys nop:=ry.held (Step.same (P:=nop) (yy y H3 hy).1) FpOk.nop fun _ _ z=>z
      refine ht g2 _ P2 ds[i] y _ H3 B _ rB _ r3 h3.z e3 fun m2 P' σ' hk ag sp ip r'=>?_
      have s4:Step g1 P1 H1 g2 P' H3:=s3.less fun a z=>.inl (sp a z)
      have a4:Bd (jt++(jc++jf)) m1 m2:=((AQ J m1 t).mono sub).trans ag |>.mono fun i z=>(kU.mp z).elim id fun z=>kH _ z
      -- outside of the comprehension's own slots nothing is bound
      have back:∀ {g5:G} {P5:Fp} {m':M} {H':Hp},Rel K g5 H' Γl m' σ' P5->∃ P6,Rel K g5 H' Γl m' (L2.blank jx σ) P6/\∀ a,P6 a->P5 a:=fun {g5 P5 m' H'} r5=>r5.sub rfl (by rw [ip.1]) fun i o e=>⟨e,(ip.2 i fun z=>by
          obtain ⟨o',e',_⟩:=Ek hbl e;exact (DG e').1 (hsx i z)).symm⟩
      refine ⟨g2,m2,P',r',B,_,rB,hk,fun b m3 g4 P4 H4 hk4 ag4 s5 r4=>?_⟩;have ry4:=ry3.held s5 r'.fpOk fun _ z=>z.elim
      cases b with
      | false =>
        rw [if_neg kI] at hk4;show (if false=true then _ else _);rw [if_neg kI];obtain ⟨g6,P6,s6,r6⟩:=r4.weaken hwc;obtain ⟨P7,r7,sp7⟩:=back r6;exact ⟨by omega,g6,P7,m3,ya,((s4.trans s5).trans s6).less sp7,r7,(a4.trans ag4).mono fun i z=>(kU.mp z).elim id fun z=>jw _ (kH _ z),ry4.held s6 r4.fpOk fun _ z=>z.elim,hf m3 hk4⟩
      | true =>
        rw [if_pos rfl] at hk4;show (if true=true then _ else _);rw [if_pos rfl];refine ⟨g4,m3,P4,r4,B,kx,rB,hk4,fun x m4 g5 P5 Pv v H5 hk5 ag5 s6 rv r5 n5=>?_⟩;have ry5:=ry4.held s6 r4.fpOk fun _ z=>z.elim
        obtain ⟨g6,P6,s7,r6⟩:=r5.weaken hwf;obtain ⟨P7,r7,sp7⟩:=back r6;refine ⟨by rw [kT,mR];omega,g6,P7,m4,ya++[x],(((s4.trans s5).trans (s6.less fun _ z=>.inl z)).trans s7).less sp7,r7,?_,?_,hx x m4 hk5⟩
        · exact ((a4.trans ag4).trans ag5).mono fun i z=>(kU.mp z).elim (fun z=>(kU.mp z).elim id fun z=>jw _ (kH _ z)) fun z=>jw _ (jw _ z)
        · refine ((Reps.app ry5 (Reps.cons rv.z Reps.nil fun _ z=>z.elim) fun _ z=>z.elim).iff (Q:=nop) fun a=>⟨fun z=>z.elim,fun z=>z.elim id fun z=>z.elim id id⟩).held s7 r5.fpOk fun _ z=>z.elim
  · have ei:i=ds.length:=by omega
    subst ei;rw [List.drop_length] at e2;refine .inl ⟨(yl g2 H2 st).2 _ (ju _),fun p hp=>?_⟩;obtain ⟨Pv,s3,h1,r3,n3⟩:=AW.go s2 r2 (AW.lst r2.zd ry hp);have l1:Γl.length=Γ1.length:=(Dp hbl).trans lb;obtain ⟨P4,r4,sp4⟩:=r3.more (Γ':=KR jx Γ1 Γl) (σ':=σ) (by unfold KR;simp) (by rw [L2.blank_length]) fun i o e=>by
      obtain ⟨hi,e⟩:=Dl e;split at e
      · rename_i z;split at e
        · rename_i z0;cases e;refine .inr ⟨rfl,?_⟩;obtain ⟨v,Px,ev,rx,_⟩:=r1.see (Az (beq_iff_eq.mp z0));have ji:i∉J:=fun w=>nJ i w (jy.mp z)
          have hl:i < m1.length:=by rw [r1.len.1,<- l1];exact hi
          refine ⟨m1.at i,v,?_,ev,(rx.z.held s2 r1.fpOk fun _ z=>z.elim).held (Step.same (P:=nop) (DT hp (.lst ys))) FpOk.nop fun _ _ z=>z⟩;have:=(AQ J m1 t).2 i ji;have hl':i < (AZ J m1 t).length:=by rw [Gs];exact hl
          rw [jl hl',<- this];unfold M.at;rw [kL,jl hl'];rfl
        · cases e
      · rename_i z;exact .inl ⟨Az e.symm,(Il jx σ i fun w=>z (jy.mpr w)).symm⟩
    exact q _ _ g2 P4 Pv _ _ (hn t ya e2) ((AQ J m1 t).mono sub) (s3.less fun a z=>z.elim (fun z=>.inl (sp4 a z)) .inr) h1 r4 fun a z w=>n3 a (sp4 a z) w
def TV (src:Ev (List Dv)) (tg:Tg) (f:Ev Dv):Ev Dv:=fun R m k=>src R m fun ds m1=>Ln ds ((EC (fun d=>tg Dv d m1 fun m2=>f Dv m2 fun x _=>some x) ds).bind fun xs=>k (.lst xs) m1)
def TX (src:Ev (List Dv)) (tg:Tg) (c:Ev Bool) (f:Ev Dv):Ev Dv:=fun R m k=>src R m fun ds m1=>Ln ds ((aX (fun d=>tg (Option Dv) d m1 fun m2=>c (Option Dv) m2 fun b m3=>if b=true then f (Option Dv) m3 fun x _=>some (some x) else some none) ds).bind fun xs=>k (.lst xs) m1)
def OT (src:Ev (List Dv)) (tg:Tg) (J:List Nat) (f:Ev Dv):Ev Dv:=fun R m k=>src R m fun ds m1=>Ln ds ((Et (fun d t=>tg (Dv×EF J) d (AZ J m1 t) fun m2=>f (Dv×EF J) m2 fun x m3=>some (x,AV J m3)) ds (AV J m1)).bind fun p=>k (.lst p.1) (AZ J m1 p.2))
def OS (src:Ev (List Dv)) (tg:Tg) (J:List Nat) (c:Ev Bool) (f:Ev Dv):Ev Dv:=fun R m k=>src R m fun ds m1=>Ln ds ((Od (fun d t=>tg (Option Dv×EF J) d (AZ J m1 t) fun m2=>c (Option Dv×EF J) m2 fun b m3=>if b=true then f (Option Dv×EF J) m3 fun x m4=>some (some x,AV J m4) else some (none,AV J m3)) ds (AV J m1)).bind fun p=>k (.lst p.1) (AZ J m1 p.2))
def Da:Ev Bool:=fun _ m k=>k true m
section
variable {K:W.Frag} {Γ Γ1 Γl Γt Γc Γf:Gm} {js jx jt jc jf J:List Nat} {g:TG} {ft:Tg} {c:Ev Bool} {f:Ev Dv} {src:Ev (List Dv)} {σ:St} {H:Hp} {Q:VK}
theorem Kw (ht:NT K Γl Γt jt g ft) (hbl:BY Γl (Le jx Γ1)=true) (hwf:BY Γl Γf=true) (hwc:BY Γl Γt=true) (hsx:∀ i∈jt,i∈jx) (hJ:([]:List Nat)=Av Γl (jt++([]++jf)))
    (h:tE K Γ 1 (KR jx Γ1 Γl) (js++(jt++([]++jf))) (TV src ft f) σ H Q):FC (tI K Γ Γ1 js src) jx g (tT K Γt Γt [] Da) (tE K Γt 0 Γf jf f) σ H Q:=by
  obtain ⟨g0,m,P,r,R,k,res,e,q⟩:=h;refine ⟨g0,m,P,r,R,_,res,e,fun ds m1 g1 P1 H1 I hk ag s r1 yl=>?_⟩;obtain ⟨hz,hk⟩:=En hk;obtain ⟨xs,e1,e2⟩:=bind_some' hk;refine Er (c:=Da) ht hbl hwf hwc hsx hJ hz r1 yl (fun ds _ ya=>∃ yb,xs=ya++yb/\EC _ ds=some yb) ⟨xs,rfl,e1⟩ (fun t ya ⟨yb,h1,h2⟩=>?_) (fun d ds t ya ⟨yb,h1,h2⟩=>?_) fun d m' g' P' Pv v H' hk ag' s'=>q d m' g' P' Pv v H' hk (ag.trans ag') (s.trans s')
  · cases h2;rw [lB] at h1;subst h1;exact e2
  · obtain ⟨x,h3,h4⟩:=bind_some' h2;obtain ⟨yc,h5,h6⟩:=bind_some' h4;cases h6;exact ⟨Dv,fun x _=>some x,fun _=>none,x,h3,(fun y m' hk=>by cases hk;exact ⟨yc,by rw [h1,kj];rfl,h5⟩),fun m' hk=>by cases hk⟩
theorem Kx (ht:NT K Γl Γt jt g ft) (hbl:BY Γl (Le jx Γ1)=true) (hwf:BY Γl Γf=true) (hwc:BY Γl Γc=true) (hsx:∀ i∈jt,i∈jx) (hJ:([]:List Nat)=Av Γl (jt++(jc++jf)))
    (h:tE K Γ 1 (KR jx Γ1 Γl) (js++(jt++(jc++jf))) (TX src ft c f) σ H Q):FC (tI K Γ Γ1 js src) jx g (tT K Γt Γc jc c) (tE K Γc 0 Γf jf f) σ H Q:=by
  obtain ⟨g0,m,P,r,R,k,res,e,q⟩:=h;refine ⟨g0,m,P,r,R,_,res,e,fun ds m1 g1 P1 H1 I hk ag s r1 yl=>?_⟩;obtain ⟨hz,hk⟩:=En hk;obtain ⟨xs,e1,e2⟩:=bind_some' hk;refine Er ht hbl hwf hwc hsx hJ hz r1 yl (fun ds _ ya=>∃ yb,xs=ya++yb/\aX _ ds=some yb) ⟨xs,rfl,e1⟩ (fun t ya ⟨yb,h1,h2⟩=>?_) (fun d ds t ya ⟨yb,h1,h2⟩=>?_) fun d m' g' P' Pv v H' hk ag' s'=>q d m' g' P' Pv v H' hk (ag.trans ag') (s.trans s')
  · cases h2;rw [lB] at h1;subst h1;exact e2
  · obtain ⟨x,h3,h4⟩:=bind_some' h2;obtain ⟨yc,h5,h6⟩:=bind_some' h4;cases h6;refine ⟨Option Dv,fun x _=>some (some x),fun _=>some none,x,h3,(fun y m' hk=>?_),fun m' hk=>?_⟩
    · cases hk;exact ⟨yc,by rw [h1,kj];rfl,h5⟩
    · cases hk;exact ⟨yc,h1,h5⟩
theorem Ih (ht:NT K Γl Γt jt g ft) (hbl:BY Γl (Le jx Γ1)=true) (hwf:BY Γl Γf=true) (hwc:BY Γl Γt=true) (hsx:∀ i∈jt,i∈jx) (hJ:J=Av Γl (jt++([]++jf)))
    (h:tE K Γ 1 (KR jx Γ1 Γl) (js++(jt++([]++jf))) (OT src ft J f) σ H Q):FC (tI K Γ Γ1 js src) jx g (tT K Γt Γt [] Da) (tE K Γt 0 Γf jf f) σ H Q:=by
  obtain ⟨g0,m,P,r,R,k,res,e,q⟩:=h;refine ⟨g0,m,P,r,R,_,res,e,fun ds m1 g1 P1 H1 I hk ag s r1 yl=>?_⟩;obtain ⟨hz,hk⟩:=En hk;obtain ⟨p,e1,e2⟩:=bind_some' hk;refine Er (c:=Da) ht hbl hwf hwc hsx hJ hz r1 yl (fun ds t ya=>∃ yb,p.1=ya++yb/\Et _ ds t=some (yb,p.2)) ⟨p.1,rfl,e1⟩ (fun t ya ⟨yb,h1,h2⟩=>?_) (fun d ds t ya ⟨yb,h1,h2⟩=>?_) fun d m' g' P' Pv v H' hk ag' s'=>q d m' g' P' Pv v H' hk (ag.trans ag') (s.trans s')
  · simp only [Et,Option.some.injEq,Prod.mk.injEq] at h2;obtain ⟨rfl,rfl⟩:=h2;rw [lB] at h1;rw [<- h1];exact e2
  · obtain ⟨x,h3,h4⟩:=bind_some' h2;obtain ⟨yc,h5,h6⟩:=bind_some' h4;simp only [Option.some.injEq,Prod.mk.injEq] at h6;obtain ⟨rfl,h7⟩:=h6;refine ⟨_,fun x m3=>some (x,AV J m3),fun _=>none,x,h3,(fun y m' hk=>?_),fun m' hk=>by cases hk⟩;cases hk;exact ⟨yc.1,by rw [h1,kj];rfl,by rw [<- h7];exact h5⟩
theorem Ig (ht:NT K Γl Γt jt g ft) (hbl:BY Γl (Le jx Γ1)=true) (hwf:BY Γl Γf=true) (hwc:BY Γl Γc=true) (hsx:∀ i∈jt,i∈jx) (hJ:J=Av Γl (jt++(jc++jf)))
    (h:tE K Γ 1 (KR jx Γ1 Γl) (js++(jt++(jc++jf))) (OS src ft J c f) σ H Q):FC (tI K Γ Γ1 js src) jx g (tT K Γt Γc jc c) (tE K Γc 0 Γf jf f) σ H Q:=by
  obtain ⟨g0,m,P,r,R,k,res,e,q⟩:=h;refine ⟨g0,m,P,r,R,_,res,e,fun ds m1 g1 P1 H1 I hk ag s r1 yl=>?_⟩;obtain ⟨hz,hk⟩:=En hk;obtain ⟨p,e1,e2⟩:=bind_some' hk;refine Er ht hbl hwf hwc hsx hJ hz r1 yl (fun ds t ya=>∃ yb,p.1=ya++yb/\Od _ ds t=some (yb,p.2)) ⟨p.1,rfl,e1⟩ (fun t ya ⟨yb,h1,h2⟩=>?_) (fun d ds t ya ⟨yb,h1,h2⟩=>?_) fun d m' g' P' Pv v H' hk ag' s'=>q d m' g' P' Pv v H' hk (ag.trans ag') (s.trans s')
  · simp only [Od,Option.some.injEq,Prod.mk.injEq] at h2;obtain ⟨rfl,rfl⟩:=h2;rw [lB] at h1;rw [<- h1];exact e2
  · obtain ⟨x,h3,h4⟩:=bind_some' h2;obtain ⟨yc,h5,h6⟩:=bind_some' h4;simp only [Option.some.injEq,Prod.mk.injEq] at h6;obtain ⟨rfl,h7⟩:=h6;refine ⟨_,fun x m4=>some (some x,AV J m4),fun m3=>some (none,AV J m3),x,h3,(fun y m' hk=>?_),fun m' hk=>?_⟩
    · cases hk;exact ⟨yc.1,by rw [h1,kj];rfl,by rw [<- h7];exact h5⟩
    · cases hk;exact ⟨yc.1,h1,by rw [<- h7];exact h5⟩
end
end R
namespace L2
open PySem PySem.Spec PyProof.Rows
def Uq (h:Heap) (it l:Addr) (i:Nat):Bool->Prop
 | false=>h.IsListIter it l i
 | true=>h.IsTupleIter it l i
def Yj (h:Heap) (l:Addr) (xs:Array Value):Bool->Prop
 | false=>h.IsList l xs
 | true=>h.IsTuple l xs
theorem Uq.at {h h':Heap} {it l:Addr} {i:Nat} {b:Bool} (x:Uq h it l i b) (k:∀ o,h.get? it=some o->h'.get? it=some o):Uq h' it l i b:=by
 cases b with
 | false=>obtain ⟨o,e,r⟩:=x;exact ⟨o,k o e,r⟩
 | true=>obtain ⟨o,e,r⟩:=x;exact ⟨o,k o e,r⟩
theorem Yj.at {h h':Heap} {l:Addr} {xs:Array Value} {b:Bool} (x:Yj h l xs b) (k:∀ o,h.get? l=some o->h'.get? l=some o):Yj h' l xs b:=by
 cases b with
 | false=>obtain ⟨o,e,r⟩:=x;exact ⟨o,k o e,r⟩
 | true=>obtain ⟨o,e,r⟩:=x;exact ⟨o,k o e,r⟩
theorem Uq.obj {h:Heap} {it l:Addr} {i:Nat} {b:Bool} (x:Uq h it l i b):∃ o,h.get? it=some o/\∀ v,o.data≠.cell v:=by
 cases b with
 | false=>obtain ⟨o,e,c,d⟩:=x;exact ⟨o,e,fun v z=>by rw [d] at z;cases z⟩
 | true=>obtain ⟨o,e,c,d⟩:=x;exact ⟨o,e,fun v z=>by rw [d] at z;cases z⟩
section
variable {prog:Program} {w:World} {A:Around} {E:Value->Shared->Prop} {s:Shared}
theorem VM {it l:Addr} {i:Nat} {items:Array Value} {x:Value} {b:Bool} {Q:Value->Shared->Prop} (hit:Uq s.heap it l i b) (hl:Yj s.heap l items b) (hx:items[i]?=some x)
    (hQ:∀ h',Uq h' it l (i+1) b->Heap.SameBut it s.heap h'->Q x { s with heap:=h' }):wpAny (model prog w) A (Builtin.SmallTypes.nextOf (.ref it)) Q E s:=by
  cases b with
  | false=>exact wpAny_nextOf_list_item hit hl hx hQ
  | true =>
    obtain ⟨o,ho,hc,hd⟩:=id hit;obtain ⟨ol,hol,_,nl,hdl⟩:=hl
    have ht:s.TypeIs (.ref it) "tuple_iterator" := ⟨o,ho,hc⟩
    unfold Builtin.SmallTypes.nextOf
    refine wpAny_bind (wpAny_callSpecial?_slot (name:=Str.ofString "__next__") ht F.slot_tuple_iterator_next
      (wpAny_call_entry F.slot_tuple_iterator_next ht F.entry_tuple_iterator_next ?_ (F.args_tuple_iterator_next_1 _)))
    show wpAny _ _ (field (.ref it) 0 >>= _) _ _ s;refine wpAny_bind (wpAny_field ho hd (x:=.ref l) rfl ?_);show wpAny _ _ (if (Value.ref l == Value.none)=true then _ else _) _ _ s;rw [if_neg (show ¬ ((Value.ref l == Value.none)=true) from kI)];show wpAny _ _ (field (.ref it) 1 >>= _) _ _ s;refine wpAny_bind (wpAny_field ho hd (x:=.int i 0) rfl ?_);show wpAny _ _ (seqItems? (.ref l) >>= _) _ _ s;refine wpAny_bind (wpAny_seqItems hol hdl ?_);simp only [Int.toNat_natCast,hx];refine wpAny_bind (wpAny_setField ho hd (by simp) (wpAny_pure ⟨x,rfl,wpAny_pure (hQ _ ?_ (Heap.SameBut.update ..))⟩));exact ⟨_,lP _ ho (Obj.isFreed_of_fields (Obj.data_mapFields hd _)),(Obj.cls_mapFields ..).trans hc,by
      rw [Obj.data_mapFields hd];simp [rawInt]⟩
theorem ZH {it l:Addr} {i:Nat} {items:Array Value} {b:Bool} {Q:Value->Shared->Prop} (hh:A.handled=none) (hit:Uq s.heap it l i b) (hl:Yj s.heap l items b) (hx:items[i]?=none)
    (hE:∀ h' e,Heap.ExtBut it s.heap h'->(∃ o,h'.get? e=some o/\o.cls=.type "StopIteration")->E (.ref e) { s with heap:=h' }):wpAny (model prog w) A (Builtin.SmallTypes.nextOf (.ref it)) Q E s:=by
  cases b with
  | false=>exact wpAny_nextOf_list_end hh hit hl hx hE
  | true =>
    obtain ⟨o,ho,hc,hd⟩:=id hit;obtain ⟨ol,hol,_,nl,hdl⟩:=hl
    have ht:s.TypeIs (.ref it) "tuple_iterator" := ⟨o,ho,hc⟩
    unfold Builtin.SmallTypes.nextOf
    refine wpAny_bind (wpAny_callSpecial?_slot (name:=Str.ofString "__next__") ht F.slot_tuple_iterator_next
      (wpAny_call_entry F.slot_tuple_iterator_next ht F.entry_tuple_iterator_next ?_ (F.args_tuple_iterator_next_1 _)))
    show wpAny _ _ (field (.ref it) 0 >>= _) _ _ s;refine wpAny_bind (wpAny_field ho hd (x:=.ref l) rfl ?_);show wpAny _ _ (if (Value.ref l == Value.none)=true then _ else _) _ _ s;rw [if_neg (show ¬ ((Value.ref l == Value.none)=true) from kI)];show wpAny _ _ (field (.ref it) 1 >>= _) _ _ s;refine wpAny_bind (wpAny_field ho hd (x:=.int i 0) rfl ?_);show wpAny _ _ (seqItems? (.ref l) >>= _) _ _ s;refine wpAny_bind (wpAny_seqItems hol hdl ?_);simp only [Int.toNat_natCast,hx];refine wpAny_bind (wpAny_rule (wpAny_bind (wpAny_setField ho hd (by simp) ?_)))
    show wpAny _ _ (newExc (.type "StopIteration") [] >>= _) _ _ _
    refine wpAny_bind ?_;simp only [newExc,newTuple];refine wpAny_bind (wpAny_newObj_type ?_ (by size_fits));refine wpAny_bind (m:=firstArgMember _ _) (wpAny_of_eq (a:=Value.none) (by first | rfl | (simp only [firstArgMember];rfl)) ?_);refine wpAny_newObj_type ?_ (by size_fits);simp only [raiseNew];refine wpAny_bind (wpAny_handled ?_)
    first | rw [show A.in1.handled=none from hh] | rw [hh]
    refine wpAny_bind (wpAny_pure (wpAny_throw ?_));exact hE _ _ (((Heap.SameBut.update ..).extBut.push _).push _) ⟨_,kD _ rfl,rfl⟩
end
def Uo (K:W.Frag) (H:Hp) (a:Addr) (xs:List V):Bool->Prop
 | false=>CB K H a xs
 | true=>Cr K H a xs
section
variable {X:Cx} {pins:List (Addr×Obj)} {σ:St} {H:Hp} {s:Shared} {a:Addr} {xs ys:List V} {b:Bool}
theorem Inv.sqB (I:Inv X pins σ H s) (h:Uo X.K H a xs b):∃ its:List Value,AD xs its/\Yj s.heap a its.toArray b/\a < s.heap.objs.size:=by
 cases b with
 | false =>
  obtain ⟨its,r,p,_⟩:=I.list h;exact ⟨its,r,p.isList,by obtain ⟨o,n,e,_⟩:=p;exact kF e⟩
 | true =>
  obtain ⟨its,r,p,_⟩:=I.tuple h;exact ⟨its,r,p,by obtain ⟨o,e,_⟩:=p;exact kF e⟩
theorem Inv.sqB_inj (I:Inv X pins σ H s) (h:Uo X.K H a xs b) (h':Uo X.K H a ys b):xs=ys:=by
 cases b with
 | false=>exact I.list_inj h h'
 | true=>exact I.tuple_inj h h'
end
section
end
section
end
section
end
section
end
def gZ (x:Str):It:=⟨fun i H=>∃ c,x.cps[i]?=some c,fun i H v H'=>H'=H/\∃ c,x.cps[i]?=some c/\v=.str ⟨#[c]⟩,fun i H=>x.cps[i]?=none⟩
theorem MB {h h':Heap} {a:Addr} {ty:String} {x:Str} {t:Tok} {i:Nat} (y:h.IsStrIter a ty x t i) (k:∀ o,h.get? a=some o->h'.get? a=some o):h'.IsStrIter a ty x t i:=
 let ⟨o,ho,r⟩:=y;⟨o,k o ho,r⟩
theorem RO {P:Program} {w:World} {K:W.Frag} {tg:Expr} (x:Str) (t:Tok) (it:Addr):Turn P w K tg (gZ x) [it] it (fun i h=>h.IsStrIter it (strIterType x) x t i) where
 mem:=by simp
 obj:=fun i h st b hb=>by
  have e:b=it:=by simpa using hb
  subst e;obtain ⟨o,e,c,d⟩:=st;exact ⟨o,e,fun v z=>by rw [d] at z;cases z⟩
 keep:=fun i h h' st k=>MB st fun o e=>k it (by simp) o e
 item:=by
  intro X hP hw hK hc i pins s σ H E I hf st hg;subst hP hw hK;obtain ⟨c,hx⟩:=hg;obtain ⟨f0,f1,f2,f3,f4,f5⟩:=hf it (by simp);have fin:∀ h':Heap,h'.IsStrIter it (strIterType x) x t (i+1)->Heap.SameBut it s.heap h'->∃ u,some (Value.str ⟨#[c]⟩ s.toks)=some u/\wpAny (model X.prog X.w) X.A (letOwnedTupleGo tg (.ref it) u) (fun _ s2=>∃ x_1 H',Inv X pins σ H' s2/\RelV x_1 u/\(gZ x).yld i H x_1 H'/\s2.heap.IsStrIter it (strIterType x) x t (i+1)/\∀ b∈[it],H' b=none) E { s with heap:=h',toks:=s.toks+1 }:=fun h' st' sb=>by
   have I1:Inv X pins σ H { s with heap:=h',toks:=s.toks+1 }:=I.turned (t':=s.toks+1) (fun b o hb e=>(sb.2 b hb).trans e) f0 f1 f3 f4 f5;obtain ⟨o,e,c',d⟩:=id st';exact ⟨_,rfl,IX (s:={ s with heap:=h',toks:=s.toks+1 }) e c' d (by unfold strIterType;split<;>decide) ⟨.str ⟨#[c]⟩,H,I1,⟨_,rfl⟩,⟨rfl,c,hx,rfl⟩,st',fun b hb=>(hf b hb).1⟩⟩
  by_cases ha:x.cps.all (· < 128)=true
  ·have e:strIterType x = "str_ascii_iterator" := by unfold strIterType;rw [if_pos ha]
   rw [e] at st fin ⊢;exact wpAny_pyNext_ascii_item st hx fun h' st' sb=>fin h' st' sb
  ·have e:strIterType x = "str_iterator" := by unfold strIterType;rw [if_neg ha]
   rw [e] at st fin ⊢;exact wpAny_pyNext_wide_item st hx fun h' st' sb=>fin h' st' sb
 done:=by
  intro X hP hw hK hc i pins s σ H E I hf st hg;subst hP hw hK;obtain ⟨f0,f1,f2,f3,f4,f5⟩:=hf it (by simp)
  by_cases ha:x.cps.all (· < 128)=true
  ·have e:strIterType x = "str_ascii_iterator" := by unfold strIterType;rw [if_pos ha]
   rw [e] at st;exact wpAny_pyNext_ascii_end (I.ok.hd hc) st hg fun h' eb=>⟨rfl,I.turned (t':=s.toks) (fun b o hb e=>eb b o hb e) f0 f1 f3 f4 f5⟩
  ·have e:strIterType x = "str_iterator" := by unfold strIterType;rw [if_neg ha]
   rw [e] at st;exact wpAny_pyNext_wide_end (I.ok.hd hc) st hg fun h' eb=>⟨rfl,I.turned (t':=s.toks) (fun b o hb e=>eb b o hb e) f0 f1 f3 f4 f5⟩
 self:=fun A i s Q E st h=>by
  by_cases ha:x.cps.all (· < 128)=true
  ·have e:strIterType x = "str_ascii_iterator" := by unfold strIterType;rw [if_pos ha]
   rw [e] at st;exact wpAny_pyIter_striter_ascii st h
  ·have e:strIterType x = "str_iterator" := by unfold strIterType;rw [if_neg ha]
   rw [e] at st;exact wpAny_pyIter_striter_wide st h
section
variable {X:Cx}
abbrev fI (K:W.Frag) (tl:TE):TI:=fun σ H R=>tl σ H fun x H1=>(∃ a xs,x=.ref a/\((CB K H1 a xs/\R (gb K a) H1)\/(Cr K H1 a xs/\R (ik K a) H1)))\/∃ z,x=.str z/\R (gZ z) H1
theorem Vs {tg l:Expr} {tl:TE} (hl:PE X l tl):PI X tg l (fI X.K tl):=by
 intro pins s σ H R I h;refine Ae (hl pins s σ H _ I h) fun v s1 ⟨x,H1,I1,r1,q1⟩=>?_
 rcases q1 with ⟨a,xs,e,q⟩ | ⟨z,e,q⟩
 ·subst e;cases r1;rcases q with ⟨hq,q⟩ | ⟨hq,q⟩
  ·obtain ⟨its,rv,p,hz⟩:=I1.list hq;refine wpAny_pyIter_list p.isList ?_;refine ⟨s1.heap.objs.size,[s1.heap.objs.size],_,_,H1,rfl,I1.kept (t':=s1.toks) fun b o e=>jm _ e,Oy a _,⟨_,kD _ rfl,rfl,rfl⟩,fun b hb=>?_,q⟩;have e:b=s1.heap.objs.size:=by simpa using hb
   subst e;exact I1.fpOk (ju _) (I1.hok.fresh (ju _))
  ·obtain ⟨its,rv,p,hz⟩:=I1.tuple hq;refine wpAny_pyIter_tuple (show s1.heap.IsTuple a its.toArray from p) ?_;refine ⟨s1.heap.objs.size,[s1.heap.objs.size],_,_,H1,rfl,I1.kept (t':=s1.toks) fun b o e=>jm _ e,Lu a _,⟨_,kD _ rfl,rfl,rfl⟩,fun b hb=>?_,q⟩;have e:b=s1.heap.objs.size:=by simpa using hb
   subst e;exact I1.fpOk (ju _) (I1.hok.fresh (ju _))
 ·subst e;obtain ⟨t,rfl⟩:=r1;refine wpAny_pyIter_strU ?_;refine ⟨s1.heap.objs.size,[s1.heap.objs.size],_,_,H1,rfl,I1.kept (t':=s1.toks) fun b o e=>jm _ e,RO z t _,⟨_,kD _ rfl,rfl,rfl⟩,fun b hb=>?_,q⟩;have e:b=s1.heap.objs.size:=by simpa using hb
  subst e;exact I1.fpOk (ju _) (I1.hok.fresh (ju _))
end
noncomputable def gY (K:W.Frag) (a:Addr) (n:Nat):It:=
 ⟨fun i H=>∃ xs x,CB K H a xs/\xs.length=n/\xs.reverse[i]?=some x,fun i H x H'=>H'=H/\∀ xs,CB K H a xs->xs.reverse[i]?=some x,fun i H=>n<=i⟩
theorem RP {P:Program} {w:World} {K:W.Frag} {tg:Expr} (a it:Addr) (n:Nat):Turn P w K tg (gY K a n) [it] it (fun i h=>i<=n/\h.IsRevIter it a ((n:Int) - 1 - i)) where
 mem:=by simp
 obj:=fun i h st b hb=>by
  have e:b=it:=by simpa using hb
  subst e;obtain ⟨_,o,e,c,d⟩:=st;exact ⟨o,e,fun v z=>by rw [d] at z;cases z⟩
 keep:=fun i h h' st k=>⟨st.1,st.2.at fun o e=>k it (by simp) o e⟩
 item:=by
  intro X hP hw hK hc i pins s σ H E I hf st hg;subst hP hw hK;obtain ⟨xs,x,hq,hn,hx⟩:=hg;obtain ⟨hi,st⟩:=st;obtain ⟨its,rv,p,hz⟩:=I.list hq;have hil:i < xs.length:=by have:=(jo.mp hx).1;simpa using this
  have hx2:xs[n - 1 - i]?=some x:=by
   rw [<- hx,lO hil,hn]
  obtain ⟨u,hu,ru⟩:=rv.get hx2;obtain ⟨f0,f1,f2,f3,f4,f5⟩:=hf it (by simp);have e:((n:Int) - 1 - i)=((n - 1 - i:Nat):Int):=by omega
  rw [e] at st;refine wpAny_pyNext_rev_item st p.isList (x:=u) (by simpa using hu) fun h' st' sb=>?_
  have I1:Inv X pins σ H { s with heap:=h' }:=I.turned (t':=s.toks) (fun b o hb e=>(sb.2 b hb).trans e) f0 f1 f3 f4 f5;obtain ⟨o,e',c,d⟩:=id st';have st2:i+1<=n/\h'.IsRevIter it a ((n:Int) - 1 - (i+1:Nat)):=⟨by omega,by
   have:((n:Int) - 1 - (i+1:Nat))=((n - 1 - i:Nat):Int) - 1:=by omega
   rw [this];exact st'⟩
  exact ⟨u,rfl,IX (s:={ s with heap:=h' }) e' c d (by decide) ⟨x,H,I1,ru,⟨rfl,fun ys hy=>by rw [I.list_inj hy hq];exact hx⟩,st2,fun b hb=>(hf b hb).1⟩⟩
 done:=by
  intro X hP hw hK hc i pins s σ H E I hf st hg;subst hP hw hK;obtain ⟨hi,st⟩:=st;obtain ⟨f0,f1,f2,f3,f4,f5⟩:=hf it (by simp);have hg:n<=i:=hg;have e:((n:Int) - 1 - i) = -1:=by omega
  rw [e] at st;exact wpAny_pyNext_rev_end (I.ok.hd hc) st fun h' eb=>⟨rfl,I.turned (t':=s.toks) (fun b o hb e=>eb b o hb e) f0 f1 f3 f4 f5⟩
 self:=fun _ _ _ _ _ st h=>wpAny_pyIter_revIter st.2 h
section
variable {X:Cx} {tg:Expr}
abbrev iC (K:W.Frag) (ta:TA):TI:=fun σ H R=>ta σ H fun vs H1=>∃ a xs,vs=[.ref a]/\CB K H1 a xs/\R (gY K a xs.length) H1
theorem Zs (K:W.Frag) {a:Expr} {ta:TA} {p pos:Pos} (hg:Gl X "reversed") (hm:X.mg "reversed" = none) (ha:PA X [a] ta) (hK:X.K=K:=by rfl) (hs:starEach [a] X.env=[(false,eval a X.env)]:=by rfl):PI X tg (.Call (.Name "reversed" p) [a] [] pos) (iC K ta):=by
 subst hK;intro pins s σ H R I h;refine Call_ (BZ I hg hm PyProof.Rows.Boot.«reversed» (kX (Ae (ha pos pins s σ H _ I h) fun us s1 ⟨vs,H1,I1,r1,q1⟩=>?_) hs rfl));obtain ⟨l,xs,e,hq,q⟩:=q1;subst e;cases r1 with
 | cons r rr =>
  cases rr;cases r;obtain ⟨its,rv,pl,hz⟩:=I1.list hq;have hlen:=rv.length;refine call_reversed_list pl.isList ?_;have hR:(s1.heap.push (revObj l ((its.toArray.size:Int) - 1))).IsRevIter s1.heap.objs.size l ((its.toArray.size:Int) - 1):=⟨_,kD _ rfl,rfl,rfl⟩;refine wpAny_pyIter_revIter (s:={ s1 with heap:=s1.heap.push (revObj l ((its.toArray.size:Int) - 1)) }) hR ?_;refine ⟨s1.heap.objs.size,[s1.heap.objs.size],_,_,H1,rfl,I1.kept (t':=s1.toks) fun b o e=>jm _ e,RP l _ xs.length,⟨kg _,?_⟩,fun b hb=>?_,q⟩
  ·have:((xs.length:Int) - 1 - (0:Nat))=((its.toArray.size:Int) - 1):=by simp [hlen]
   rw [this];exact hR
  ·have e:b=s1.heap.objs.size:=by simpa using hb
   subst e;exact I1.fpOk (ju _) (I1.hok.fresh (ju _))
end
theorem Draws.sq {prog:Program} {w:World} {A:Around} (hh:A.handled=none) (it l:Addr) (hne:l≠it) (items:Array Value) (b:Bool) :
    Draws prog w A it [it,l] items.size (fun i v=>items[i]?=some v) (fun i h=>Uq h it l i b/\Yj h l items b) where
  live:=fun _ _ st=>let ⟨o,ho,_⟩:=st.1.obj;⟨o,ho⟩
  frame:=fun _ _ _ st hk=>⟨st.1.at fun o e=>hk it (by simp) o e,st.2.at fun o e=>hk l (by simp) o e⟩
  item:=fun i s Q E hi st hQ=>by
    refine VM st.1 st.2 (x:=items[i]) (by simp [hi]) fun h' hit' hs'=>?_
    exact hQ _ h' s.toks (by simp [hi]) ⟨hit',st.2.at fun o e=>hs'.extBut _ _ hne e⟩ hs'
  done:=fun s Q E st hE=>ZH hh st.1 st.2 (by simp) hE
def Xe (K:W.Frag) (a:Addr) (b:Bool) (n:Nat):It:=
 ⟨fun i H=>∃ xs x,Uo K H a xs b/\xs.length=n/\xs[i]?=some x,fun i H x H'=>∃ p y,H p=none/\x=.ref p/\H'=upd H p (.tup [.int i,y])/\∀ xs,Uo K H a xs b->xs[i]?=some y,fun i H=>∃ xs,Uo K H a xs b/\xs.length=n/\n<=i⟩
theorem Lw {P:Program} {w:World} {K:W.Frag} {elts:List Expr} {x1} {pos:Pos} (a e it:Addr) (b:Bool) (n:Nat) (hne:e≠it) (hae:a≠e) (hai:a≠it):Turn P w K (.Tuple elts x1 pos) (Xe K a b n) [e,it] e (fun i h=>(∃ old,IsEnum h e it i old)/\Uq h it a i b/\i<=n) where
 mem:=by simp
 obj:=fun i h st c hb=>by
  obtain ⟨⟨old,he⟩,hi,hin⟩:=st;rcases kZ.mp hb with z | z
  ·subst z;exact ⟨_,he,fun v z=>by cases z⟩
  ·have z:=kY.mp z;subst z;exact hi.obj
 keep:=fun i h h' st k=>by
  obtain ⟨⟨old,he⟩,hi,hin⟩:=st;exact ⟨⟨old,k e (by simp) _ he⟩,hi.at fun o q=>k it (by simp) o q,hin⟩
 item:=by
  intro X hP hw hK hc i pins s σ H E I hf st hg;subst hP hw hK;obtain ⟨xs,x,hq,hxn,hx⟩:=hg;obtain ⟨⟨old,he⟩,hi,hin⟩:=st;obtain ⟨its,rv,p,hz⟩:=I.sqB hq;obtain ⟨u,hu,ru⟩:=rv.get hx;have hil:i < its.toArray.size:=by have:=(jo.mp hu).1;simpa using this
  refine wpAny_pyNext_enum_itemD (Draws.sq (A:=X.A.in1) (I.ok.hd hc) it a hai its.toArray b) he ⟨hi,p⟩ hil hne (by simp [hne,hae.symm]) fun x' h1 tk e1 o1 i1 t1 z1 k1=>?_
  have ex:x'=u:=by
   have e1:its.toArray[i]?=some x':=e1;rw [List.getElem?_toArray,hu] at e1;exact (Option.some.inj e1).symm
  subst ex;refine ⟨_,rfl,wpAny_letOwnedTupleGo_enum (s:={ s with heap:=h1,toks:=tk+1 }) o1 fun h2 e2 sb=>?_⟩;have hel:e < s.heap.objs.size:=kF he;have hil:it < s.heap.objs.size:=by obtain ⟨o,q,_⟩:=hi.obj;exact kF q
  have hfr:=I.hok.fresh (ju s.heap.objs.size)
  have I1:Inv X pins σ (upd H s.heap.objs.size (.tup [.int i,x])) { s with heap:=s.heap.push { cls:=.type "tuple", data:=.seq #[.int i tk,x'] },toks:=tk+1 }:=
   I.laid (fun b o q=>jm _ q) (ju _) (show An X.prog X.w _ _ _ (.tup [.int i,x]) from ⟨by show 2<=sizeLine;decide,[.int i tk,x'],.cons ⟨_,rfl⟩ (.cons ru .nil),GH.new _ _⟩)
  have hf1:∀ b∈[e,it],FpOk X pins (upd H s.heap.objs.size (.tup [.int i,x])) b:=fun b hb=>by
   obtain ⟨f0,r⟩:=hf b hb;refine ⟨?_,r⟩;have hbl:b≠s.heap.objs.size:=by
    rcases kZ.mp hb with z | z
    ·rw [z];exact kP hel
    ·rw [kY.mp z];exact kP hil
   rw [AO hbl];exact f0
  have I2:Inv X pins σ (upd H s.heap.objs.size (.tup [.int i,x])) { s with heap:=h2,toks:=tk+1 }:=by
   refine Inv.turnedL (s:={ s with heap:=s.heap.push { cls:=.type "tuple", data:=.seq #[.int i tk,x'] },toks:=tk+1 }) (h':=h2) (t':=tk+1) (ch:=[e,it]) I1 (fun b o hb q=>?_) hf1
   have q:(s.heap.push { cls:=.type "tuple", data:=.seq #[.int i tk,x'] }).get? b=some o:=q
   have hbe:b≠e:=fun z=>hb (by simp [z])
   have hbi:b≠it:=fun z=>hb (by simp [z])
   refine (sb.2 b hbe).trans ?_
   by_cases hbs:b=s.heap.objs.size
   ·subst hbs;rw [kD _ rfl] at q;rw [<- q];exact t1
   ·refine k1 b o hbe hbi ?_;rw [lx _ _ _ hbs] at q;exact q
  refine ⟨.ref s.heap.objs.size,_,I2,rfl,⟨_,x,hfr,rfl,rfl,fun ys hy=>by rw [I.sqB_inj hy hq];exact hx⟩,⟨⟨x',by simpa using e2⟩,?_,?_⟩,fun b hb=>(hf1 b hb).1⟩
  ·exact i1.1.at fun o q=>(sb.2 it hne.symm).trans q
  ·have:=(jo.mp hx).1;omega
 done:=by
  intro X hP hw hK hc i pins s σ H E I hf st hg;subst hP hw hK;obtain ⟨xs,hq,hx,hx2⟩:=hg;obtain ⟨⟨old,he⟩,hi,hin⟩:=st;obtain ⟨its,rv,p,hz⟩:=I.sqB hq;obtain ⟨f0,f1,f2,f3,f4,f5⟩:=hf it (by simp);have hl:=rv.length;have ei:its.toArray.size=i:=by simp;omega
  exact wpAny_pyNext_enum_endD (Draws.sq (A:=X.A.in1) (I.ok.hd hc) it a hai its.toArray b) he (by rw [ei];exact ⟨hi,p⟩) fun h' eb=>⟨rfl,I.turned (t':=s.toks) (fun b o hb e=>eb b o hb e) f0 f1 f3 f4 f5⟩
 self:=fun _ _ _ _ _ st h=>wpAny_pyIter_enum st.1.choose_spec h
theorem Kv (l:Addr) (items:Array Value) (n:Nat) (dct:Option Addr) (sl:Array (Option Value)) :
    Meets (Builtin.«enumerate.__new__» ⟨[.type "enumerate", .ref l],[]⟩) (fun _ R s=>s.heap.get? l=some { cls:=.type "tuple", dict:=dct,data:=.seq items n,slots:=sl } /\
      R (.ok (.ret (.ref (s.heap.push { cls:=.type "tuple_iterator", data:=.fields #[.ref l,.int 0 0] }).objs.size)))
        { s with heap:=(s.heap.push { cls:=.type "tuple_iterator", data:=.fields #[.ref l,.int 0 0] }).push { cls:=.type "enumerate", data:=.fields #[.none,.bool false,.ref s.heap.objs.size,rawInt 0,.none,.none] } }):=
  .of_wp fun prog w A R s h=>by
    obtain ⟨hp,g,d,tk,os⟩:=s;obtain ⟨hl,h⟩:=h;have hsub:=sub_enumerate;have hL:Heap.IsTuple (Shared.heap ⟨hp,g,d,tk,os⟩) l items:=⟨_,hl,rfl,n,rfl⟩
    wp_walk using PySem.AutoSeq1.wpAny_loadPart' hl
    refine wpAny_stack_any fun st=>wpAny_pure ?_
    split
    · rename_i c _ _ _ _ _
      cases (c == Value.type "enumerate")
      · wp_walk using PySem.AutoSeq1.wpAny_loadPart' hl,wpAny_pyIter_tuple hL
        exact ⟨_,rfl,h⟩
      · wp_walk using PySem.AutoSeq1.wpAny_loadPart' hl,wpAny_pyIter_tuple hL
        exact ⟨_,rfl,h⟩
    · wp_walk using PySem.AutoSeq1.wpAny_loadPart' hl,wpAny_pyIter_tuple hL
      exact ⟨_,rfl,h⟩
section
variable {prog:Program} {w:World} {A:Around} {E:Value->Shared->Prop} {s:Shared}
theorem NF {l:Addr} {items:Array Value} {b:Bool} {Q:Value->Shared->Prop} (hL:Yj s.heap l items b)
    (h:∀ h',IsEnum h' (s.heap.objs.size+1) s.heap.objs.size 0 .none->Uq h' s.heap.objs.size l 0 b->h'.objs.size=s.heap.objs.size+2 ->
      (∀ b o,s.heap.get? b=some o->h'.get? b=some o)->Q (.ref (s.heap.objs.size+1)) { s with heap:=h' }) :
    wpAny (model prog w) A (call (.type "enumerate") [.ref l]) Q E s:=by
  cases b with
  | false=>exact call_enumerate_list hL h
  | true =>
    obtain ⟨⟨c,dct,dt,sl⟩,hl,hc,n,hd⟩:=hL
    replace hc:c=.type "tuple" := hc
    replace hd:dt=.seq items n:=hd;subst hc hd;refine callType_new F.called_enumerate (by decide) (F.typeCall_enumerate_1 _) (F.newCall_enumerate_1 _) (fun obj=>F.args_object_init_2 obj _) F.entry_enumerate_new
      (Kv l items n dct sl) ⟨hl,?_⟩
    have hz:(s.heap.push { cls:=.type "tuple_iterator", data:=.fields #[.ref l,.int 0 0] }).objs.size=s.heap.objs.size+1:=lU ..
    show _/\_;rw [hz]
    have he:IsEnum ((s.heap.push { cls:=.type "tuple_iterator", data:=.fields #[.ref l,.int 0 0] }).push
        { cls:=.type "enumerate", data:=.fields #[.none,.bool false,.ref s.heap.objs.size,rawInt 0,.none,.none] }) (s.heap.objs.size+1) s.heap.objs.size 0 .none:=by
      have:=kD (s.heap.push { cls:=.type "tuple_iterator", data:=.fields #[.ref l,.int 0 0] })
        (o:={ cls:=.type "enumerate", data:=.fields #[.none,.bool false,.ref s.heap.objs.size,rawInt 0,.none,.none] }) rfl
      rw [hz] at this;exact this
    refine ⟨⟨_,he,rfl⟩,h _ he ⟨_,jm _ (kD _ rfl),rfl,rfl⟩ (by rw [lU,hz]) fun b o x=>jm _ (jm _ x)⟩
end
section
variable {X:Cx} {elts:List Expr} {x1} {tpos:Pos}
abbrev ax (K:W.Frag) (ta:TA):TI:=fun σ H R=>ta σ H fun vs H1=>∃ a b xs,vs=[.ref a]/\Uo K H1 a xs b/\R (Xe K a b xs.length) H1
theorem SX (K:W.Frag) {a:Expr} {ta:TA} {p pos:Pos} (hg:Gl X "enumerate") (hm:X.mg "enumerate" = none) (ha:PA X [a] ta) (hK:X.K=K:=by rfl) (hs:starEach [a] X.env=[(false,eval a X.env)]:=by rfl):PI X (.Tuple elts x1 tpos) (.Call (.Name "enumerate" p) [a] [] pos) (ax K ta):=by
 subst hK;intro pins s σ H R I h;refine Call_ (BZ I hg hm PyProof.Rows.Boot.«enumerate» (kX (Ae (ha pos pins s σ H _ I h) fun us s1 ⟨vs,H1,I1,r1,q1⟩=>?_) hs rfl));obtain ⟨l,b,xs,e,hq,q⟩:=q1;subst e;cases r1 with
 | cons r rr =>
  cases rr;cases r;obtain ⟨its,rv,pl,hz⟩:=I1.sqB hq;refine NF pl fun h' hE hI hsz hk=>?_
  refine wpAny_pyIter_enum (s:={ s1 with heap:=h' }) hE ?_;refine ⟨s1.heap.objs.size+1,[s1.heap.objs.size+1,s1.heap.objs.size],_,_,H1,rfl,I1.kept (t':=s1.toks) hk,Lw l _ _ b xs.length (Nat.succ_ne_self _) (kP (lp hz)) (kP hz),⟨⟨_,hE⟩,hI,kg _⟩,fun c hb=>?_,q⟩;have hb':s1.heap.objs.size<=c:=by
   rcases kZ.mp hb with z | z
   ·rw [z];exact lN _
   ·rw [kY.mp z];exact ju _
  exact I1.fpOk hb' (I1.hok.fresh hb')
end
section
variable {X:Cx} {p1 p2 pos1 pos2:Pos} {es:List Expr} {e:Expr} {ta:TA}
abbrev KD (ta:TA):TE:=fun σ H Q=>ta σ H fun vs H1=>∃ (i j:Int),(vs=[.int j]/\i=0\/vs=[.int i,.int j])/\(-(2 ^ 62)<=i/\i < 2 ^ 62/\-(2 ^ 62)<=j/\j < 2 ^ 62)/\(j - i).toNat<=1000000/\∀ l,H1 l=none->Q (.ref l) (upd H1 l (.lst ((List.range (j - i).toNat).map fun k=>.int (i+(k:Nat)))))
theorem II {A:Around} {E:Value->Shared->Prop} {pins:List (Addr×Obj)} {σ:St} {H:Hp} {s:Shared} {Q:VK} {i j:Int} {t u v:Tok} {tk:Nat} (hh:A.handled=none) (I:Inv X pins σ H s) (h1:-(2 ^ 62)<=i) (h2:i < 2 ^ 62) (h3:-(2 ^ 62)<=j) (h4:j < 2 ^ 62) (hl:(j - i).toNat<=1000000)
    (q:∀ l,H l=none->Q (.ref l) (upd H l (.lst ((List.range (j - i).toNat).map fun k=>.int (i+(k:Nat)))))) :
    wpAny (model X.prog X.w) A (call (.type "list") [.ref s.heap.objs.size]) (fun v s'=>∃ x H',Inv X pins σ H' s'/\RelV x v/\Q x H') E { s with heap:=s.heap.push { cls:=.type "range", data:=.fields #[.int i t,.int j u,.int 1 v] },toks:=tk }:=by
  have hr:Builtin.Range.rangeSize i j 1=((j - i).toNat:Nat):=by rw [rangeSize_one];split<;>omega
  refine call_list_range (n:=(j - i).toNat) hh (IsRange.new ..) (small_one h1 h2 h3 h4) hr (by omega) fun h' tk' acc c' hk eh hacc=>?_
  have kp:∀ b o,s.heap.get? b=some o->h'.get? b=some o:=fun b o e=>hk b o (jm _ e)
  have hsz:(s.heap.push { cls:=.type "range", data:=.fields #[.int i t,.int j u,.int 1 v] }).objs.size=s.heap.objs.size+1:=lU ..
  have hv:AD ((List.range (j - i).toNat).map fun k=>V.int (i+(k:Nat))) acc.toList:=by
    have:∀ (n m:Nat) (l:List Value),l.length=n->(∀ (q:Nat) (v:Value),l[q]?=some v->∃ t,v=.int (i+((m+q:Nat):Int)) t)->AD ((List.range' m n).map fun k=>V.int (i+(k:Nat))) l:=by
      intro n
      induction n with
      | zero=>intro m l e _;cases l with | nil=>exact .nil | cons a b=>cases e
      | succ n ih =>
        intro m l e h;cases l with
        | nil=>cases e
        | cons a b =>
          rw [ml,jz];refine .cons ?_ (ih (m+1) b (by simpa using e) fun q v hv=>?_)
          · obtain ⟨t,rfl⟩:=h 0 a rfl;exact ⟨t,rfl⟩
          · obtain ⟨t,rfl⟩:=h (q+1) v (by simpa using hv);exact ⟨t,by rw [Nat.add_assoc,Nat.add_comm 1 q]⟩
    rw [List.range_eq_range'];refine this (j - i).toNat 0 acc.toList (by simp [hacc.1]) fun q v hv=>?_
    obtain ⟨t,e⟩:=hacc.2 q v (by simpa using hv);exact ⟨t,by rw [e];simp⟩
  refine ⟨.ref _,_,I.laid (t':=tk') kp (by rw [hsz];exact lN _) (show An X.prog X.w _ h' _ (.lst ((List.range (j - i).toNat).map fun k=>.int (i+(k:Nat)))) from ⟨by rw [jv,lQ];exact kM hl (show 1000000<=sizeLine by decide),acc.toList,c',hv,by rw [eh]⟩),rfl,q _ (I.hok.fresh (by rw [hsz];exact lN _))⟩
theorem MQ (hc:X.calm=true) (hgL:Gl X "list") (hmL:X.mg "list" = none) (hgR:Gl X "range") (hmR:X.mg "range" = none) (ha:PA X (e::es) ta)
    (hs1:starEach [.Call (.Name "range" p2) (e::es) [] pos2] X.env=(false,eval (.Call (.Name "range" p2) (e::es) [] pos2) X.env)::starEach [] X.env:=by rfl)
    (hpl1:(backTo pos1 (starEach [] X.env)).any (·.1)=false:=by rfl)
    (hs2:starEach (e::es) X.env=(false,eval e X.env)::starEach es X.env:=by rfl) (hpl2:(backTo pos2 (starEach es X.env)).any (·.1)=false:=by rfl) :
    PE X (.Call (.Name "list" p1) [.Call (.Name "range" p2) (e::es) [] pos2] [] pos1) (KD ta):=by
  intro pins s σ H Q I h;refine wpAny_Call_Name_kw (BZ I hgL hmL PyProof.Rows.Boot.«list» ?_ (by decide) (by decide));refine kX ?_ hs1 hpl1;rw [hs1]
  show wpAny _ _ (spliced ((false,eval (.Call (.Name "range" p2) (e::es) [] pos2) X.env)::backTo pos1 (starEach [] X.env))) _ _ s
  refine Calls.spliced_cons ?_;refine wpAny_Call_Name_kw (BZ I hgR hmR boot_range ?_ (by decide) (by decide));refine kX (Ae (ha pos2 pins s σ H _ I h) fun us s1 ⟨vs,H1,I1,r1,q1⟩=>?_) hs2 hpl2;obtain ⟨i,j,ev,⟨b1,b2,b3,b4⟩,hl,q⟩:=q1;rcases ev with ⟨ev,rfl⟩ | ev
  · subst ev;cases r1 with
    | cons r rr =>
      cases rr;obtain ⟨t,rfl⟩:=r;refine call_range_1 (Calls.spliced_nil ?_);exact II (I1.ok.hd hc) I1 b1 b2 b3 b4 hl q
  · subst ev;cases r1 with
    | cons r rr =>
      cases rr with
      | cons r' rr =>
        cases rr;obtain ⟨t,rfl⟩:=r;obtain ⟨t',rfl⟩:=r';refine call_range_2 (Calls.spliced_nil ?_);exact II (I1.ok.hd hc) I1 b1 b2 b3 b4 hl q
end
end L2
namespace R
open PySem L2
noncomputable def items:Dv->Option (List Dv)
 | .tup ds=>some ds
 | .lst ds=>some ds
 | .scr ns=>some (ns.map .int)
 | .str l=>some (l.map fun c=>.str [c])
 | _=>none
def OR (f:Ev Dv):Ev (List Dv):=fun R m k=>f R m fun d m'=>(items d).bind fun ds=>k ds m'
section
variable {K:W.Frag} {g:G} {H:Hp}
theorem rep_int {o:Nat} {i:Int} {v:V} {P:Fp} (h:Rep K g H o (.int i) v P):v=.int i:=by unfold Rep at h;exact h.1
theorem BG {o:Nat} {i:Int}:Rep K g H o (.int i) (.int i) nop:=by unfold Rep;exact ⟨rfl,fun _ z=>z⟩
theorem Uw {a:Addr} {ds:List Dv} (h:Rep K g H 0 (.lst ds) (.ref a) nop):Yl K (gb K a) ds g H:=by
 intro g2 H2 st;have h2:=st.rep h;unfold Rep at h2;obtain ⟨b,vs,P',e,h1,h2,_⟩:=h2;cases e;have sq:CB K H2 a vs:=.inl (.inl h1.1);refine ⟨fun i d e=>?_,fun i hi=>⟨vs,sq,by rw [<- h2.len];exact hi⟩⟩;obtain ⟨v,P,ev,rv,_⟩:=h2.get e;refine ⟨⟨vs,v,sq,ev⟩,fun x H3 y=>?_⟩;obtain ⟨rfl,y⟩:=y;have:=y vs sq;rw [ev] at this;cases this;exact AW.old rv.z
theorem Yk {a:Addr} {ds:List Dv} (h:Rep K g H 0 (.tup ds) (.ref a) nop):Yl K (ik K a) ds g H:=by
 intro g2 H2 st;have h2:=st.rep h;unfold Rep at h2;obtain ⟨b,vs,e,h1,h2⟩:=h2;cases e;have sq:Cr K H2 a vs:=.inl (.inl h1);refine ⟨fun i d e=>?_,fun i hi=>⟨vs,sq,by rw [<- h2.len];exact hi⟩⟩;obtain ⟨v,P,ev,rv,_⟩:=h2.get e;refine ⟨⟨vs,v,sq,ev⟩,fun x H3 y=>?_⟩;obtain ⟨rfl,y⟩:=y;have:=y vs sq;rw [ev] at this;cases this;exact AW.old rv.z
theorem Yn {a:Addr} {ns:List Int} (h:Rep K g H 0 (.scr ns) (.ref a) nop):Yl K (gb K a) (ns.map .int) g H:=by
 intro g2 H2 st;have h2:=st.rep h;unfold Rep at h2;obtain ⟨⟨b,e,h1⟩,_⟩:=h2;cases e;have sq:=h1.sq;refine ⟨fun i d e=>?_,fun i hi=>⟨_,sq,by rw [jv] at hi ⊢;exact hi⟩⟩;rw [kN] at e;cases q:ns[i]? with
 | none=>rw [q] at e;cases e
 | some k =>
  rw [q] at e;cases e;refine ⟨⟨_,.int k,sq,by rw [kN,q];rfl⟩,fun x H3 y=>?_⟩;obtain ⟨rfl,y⟩:=y;have:=y _ sq;rw [kN,q] at this;cases this;exact AW.old BG
theorem Ym {l:List Nat}:Yl K (gZ (tx l)) (l.map fun c=>.str [c]) g H:=by
 intro g2 H2 st;have ec:∀ i:Nat,(tx l).cps[i]?=l[i]?:=fun i=>by show l.toArray[i]?=l[i]?;simp
 refine ⟨fun i d e=>?_,fun i hi=>?_⟩
 ·rw [kN] at e;cases q:l[i]? with
  | none=>rw [q] at e;cases e
  | some c =>
   rw [q] at e;simp only [kn,Option.some.injEq] at e;subst e;refine ⟨⟨c,by rw [ec,q]⟩,fun x H3 y=>?_⟩;obtain ⟨rfl,c',e',rfl⟩:=y;rw [ec,q] at e';cases e';exact AW.old (by unfold Rep;exact ⟨rfl,fun _ z=>z⟩)
 ·show (tx l).cps[i]?=none;rw [ec];rw [jv] at hi;exact lG hi
theorem RC {lo:Int} {n:Nat}:Yl K (gM lo n) ((List.range n).map fun k=>.int (lo+(k:Nat))) g H:=by
 intro g2 H2 st;refine ⟨fun i d e=>?_,fun i hi=>by rw [jv,lQ] at hi;exact hi⟩;obtain ⟨hi,rfl⟩:=Dl e;refine ⟨hi,fun x H3 y=>?_⟩;obtain ⟨rfl,rfl⟩:=y;exact AW.old BG
end
section
variable {X:Cx} {tg e a b:Expr} {es:List Expr} {f:Ev Dv} {p pos:Pos} {Γ Γ':Gm} {js:List Nat} {as:List Ar}
theorem fF (h:PE X e (tE X.K Γ 0 Γ' js f)):PI X tg e (tI X.K Γ Γ' js (OR f)):=PI.imp (Vs h) fun σ H Q q=>by
 obtain ⟨g,m,P,r,R,k,res,e,q⟩:=q;refine ⟨g,m,P,r,R,_,res,e,fun d m' g' P' Pv v H' hk ag s rv r1 n=>?_⟩;obtain ⟨ds,e1,e2⟩:=bind_some' hk;have s':Step g P H g' P' H':=s.less fun _ z=>.inl z
 have rz:=rv.z;cases d with
 | tup es =>
  cases e1;have h0:=rz;unfold Rep at h0;obtain ⟨a,vs,rfl,h1,h2⟩:=h0;exact .inl ⟨a,vs,rfl,.inr ⟨.inl (.inl h1),q _ m' g' P' H' _ e2 ag s' r1 (Yk rz)⟩⟩
 | lst es =>
  cases e1;have h0:=rz;unfold Rep at h0;obtain ⟨a,vs,P1,rfl,h1,h2,_⟩:=h0;exact .inl ⟨a,vs,rfl,.inl ⟨.inl (.inl h1.1),q _ m' g' P' H' _ e2 ag s' r1 (Uw rz)⟩⟩
 | scr ns =>
  cases e1;have h0:=rz;unfold Rep at h0;obtain ⟨⟨a,rfl,h1⟩,_⟩:=h0;exact .inl ⟨a,_,rfl,.inl ⟨h1.sq,q _ m' g' P' H' _ e2 ag s' r1 (Yn rz)⟩⟩
 | str l =>
  cases e1;have h0:=rz;unfold Rep at h0;exact .inr ⟨_,h0.1,q _ m' g' P' H' _ e2 ag s' r1 Ym⟩
 | _=>cases e1
def Qs (K:W.Frag) (p:List Dv->Option (List Dv)) (r:List V->Hp->(It->Hp->Prop)->Prop):Prop:=∀ g H ds vs its Q,Zd g H->Reps K g H 0 ds vs nop->p ds=some its->(∀ J H',NV H H'->Yl K J its g H'->Q J H')->r vs H Q
def YR (p:List Dv->Option (List Dv)) (fa:Ev (List Dv)):Ev (List Dv):=fun R m k=>fa R m fun ds m'=>(p ds).bind fun its=>k its m'
abbrev YJ (r:List V->Hp->(It->Hp->Prop)->Prop) (ta:TA):TI:=fun σ H Q=>ta σ H fun vs H1=>r vs H1 Q
theorem VJ {K:W.Frag} {pr:List Dv->Option (List Dv)} {r:List V->Hp->(It->Hp->Prop)->Prop} (hp:Qs K pr r) (c:AA Γ as Γ' js) (he:evd as=true) {σ:St} {H:Hp} {Q:It->Hp->Prop} (h:tI K Γ Γ' js (YR pr (AK as)) σ H Q):YJ r (BP K as) σ H Q:=by
 obtain ⟨g,m,P,rl,R',k,res,e,q⟩:=h;refine AI as rl c e fun ds m' g' P' vs H1 hk ag s ar r1=>?_
 obtain ⟨its,e1,e2⟩:=bind_some' hk;exact hp g' H1 ds vs its Q r1.zd (ar.reps he) e1 fun J H2 sm yl=>q its m' g' P' H2 J e2 ag ((s.trans (Step.same sm)).less fun _ z=>z) (r1.same sm) yl
noncomputable def small (i:Int):Bool:=-1000000000<=i && i<=1000000000
theorem KL {i:Int} (h:small i=true):-1000000000<=i/\i<=1000000000:=by
 unfold small at h;rw [jh,decide_eq_true_eq,decide_eq_true_eq] at h;exact h
def DJ (ds:List Dv):Option (List Dv):=match ds with
 | [.int n]=>bif small n then some ((List.range n.toNat).map fun k=>.int (0+(k:Nat))) else none
 | _=>none
def dk:List V->Hp->(It->Hp->Prop)->Prop:=fun vs H1 R=>∃ j:Int,vs=[.int j]/\-(2 ^ 62)<=j/\j < 2 ^ 62/\R (gM 0 j.toNat) H1
theorem Rn {K:W.Frag}:Qs K DJ dk:=fun g H ds vs its Q zd ra e q=>by
 unfold DJ at e;split at e
 ·rename_i n;cases c:small n with
  | false=>rw [c] at e;cases e
  | true =>
   rw [c] at e;cases e;have hn:=KL c;unfold Reps at ra;obtain ⟨v,vr,_,_,rfl,h1,h2,_⟩:=ra;unfold Reps at h2;obtain ⟨rfl,_⟩:=h2;rw [rep_int h1];exact ⟨n,rfl,by omega,by omega,q _ H (fun _ _ z=>z) RC⟩
 ·cases e
end
structure Sig:Type 1 where
 ps:List Str
 io:List Nat
 ro:Nat
 nb:Bool
 fn:List Dv->Option (Dv×List Dv)
 cps:(R:Type)->List Dv->(Dv->List Dv->Option R)->Option R
 eq:∀ R ds k,cps R ds k=(fn ds).bind fun p=>k p.1 p.2
def Qy (n:Nat) (io:List Nat):Gm:=(List.range n).map fun i=>some (if io.contains i then 1 else 0)
def Bk (K:W.Frag) (g:G) (H:Hp) (io:List Nat) (bs:List Dv) (vs:List V) (P:Fp):Prop:=Rel K g H (io.map fun _=>some 1) bs (io.map fun i=>(vs[i]?).map id) P
def Nm (K:W.Frag) (s:Sig):Sp:=fun vs H Q _=>∃ g ds P,Rel K g H (Qy s.ps.length s.io) ds (vs.map some) P/\∃ d bs,s.fn ds=some (d,bs) /\
 ∀ g' H' v Pv Pb,Step g P H g' (fun a=>Pv a\/Pb a) H'->Rep K g' H' s.ro d v Pv->Bk K g' H' s.io bs vs Pb->Disj Pv Pb->Q v H'
def MG (n:Nat) (io:List Nat):Gm:=(List.range n).map fun i=>if io.contains i then some 1 else none
def Wh (n p:Nat) (io:List Nat):Gm:=Qy p io++List.replicate (n - p) none
section
variable {K:W.Frag} {g:G} {H:Hp}
theorem Rel.pad {Γ:Gm} {m:M} {vs:List V} {P:Fp} (h:Rel K g H Γ m (vs.map some) P) (n:Nat):Rel K g H (Γ++List.replicate n none) (m++List.replicate n .non) (vs.map some++List.replicate n none) P:=by
 obtain ⟨zd,F,h1,h4⟩:=h;have old:∀ {i o:Nat},(Γ++List.replicate n none)[i]?=some (some o)->i < Γ.length/\Γ[i]?=some (some o):=fun {i o} e=>by
  by_cases z:i < Γ.length
  ·rw [kK z] at e;exact ⟨z,e⟩
  ·rw [kS (by omega),mz] at e;split at e<;>cases e
 refine ⟨zd,F,⟨by simp [h1.l1],by have:=h1.l2;simp at this ⊢;omega,fun i o e=>?_,fun i e=>?_,h1.dj⟩,h4⟩
 ·obtain ⟨hi,e⟩:=old e;obtain ⟨d,v,e1,e2,r⟩:=h1.rep i o e;exact ⟨d,v,by rw [kK (by rw [h1.l1];exact hi)];exact e1,by rw [kK (by rw [h1.l2];exact hi)];exact e2,r⟩
 ·refine h1.out i fun o z=>e o ?_
  rw [kK (jo.mp z).1];exact z
theorem Rel.pick {Γ:Gm} {m:M} {σ:St} {P:Fp} {io:List Nat} (h:Rel K g H Γ m σ P) (nd:io.Nodup) (hl:∀ i∈io,Γ[i]?=some (some 1)):∃ P',Rel K g H (io.map fun _=>some 1) (io.map m.at) (io.map fun i=>(σ[i]?).join) P'/\∀ a,P' a->P a:=by
 obtain ⟨zd,F,h1,h4⟩:=h;refine ⟨fun a=>∃ j i,io[j]?=some i/\F i a,⟨zd,fun j a=>∃ i,io[j]?=some i/\F i a,⟨by simp,by simp,fun j o e=>?_,fun j e a ⟨i,e',_⟩=>?_,fun j k n a ⟨i,e1,q1⟩ ⟨i',e2,q2⟩=>?_⟩,fun _=>Iff.rfl⟩,fun a ⟨j,i,_,q⟩=>(h4 a).mpr ⟨i,q⟩⟩
 ·rw [kN] at e;cases ej:io[j]? with
  | none=>rw [ej] at e;cases e
  | some i =>
   rw [ej] at e;cases e;obtain ⟨d,v,e1,e2,r⟩:=h1.rep i 1 (hl i (kh ej));have eq:(fun a=>∃ i',some i=some i'/\F i' a)=F i:=funext fun a=>propext ⟨fun ⟨i',z,q⟩=>by cases z;exact q,fun q=>⟨i,rfl,q⟩⟩
   exact ⟨d,v,by rw [kN,ej,kn,Iu e1],by rw [kN,ej,kn,e2];rfl,by show Rep K g H 1 d v fun a=>∃ i',some i=some i'/\F i' a;rw [eq];exact r⟩
 ·refine e 1 ?_;rw [kN,e'];rfl
 ·by_cases z:i=i'
  ·subst z;refine n ?_;have hj:=(jo.mp e1);have hk:=(jo.mp e2);exact (mm (h₀:=hj.1) (h₁:=hk.1) nd).mp (hj.2.trans hk.2.symm)
  ·exact h1.dj i i' z a q1 q2
end
theorem fM {P:Program} {w:World} {K:W.Frag} {mg:Str->Option Value} {base:Heap} {x qual:Str} {st:Stmt} {f:Addr} {fd:FuncData} {N:List Str} {k:Nat} {s:Sig} (Fn:Fun K x qual st f fd) (S:FnScope N s.ps (AH st)) (nd:s.io.Nodup) (hio:∀ i∈s.io,i < s.ps.length) (hn:s.ps.length<=N.length)
    {body:Es} {Γn:Option Gm} {js:List Nat} (hw:JQ (some (MG N.length s.io)) Γn=true)
    (hb:∀ (cdv:Value) (A:Around) (outer:List Env) (s':Shared) (H:Hp) (E:XK),Room k (A.deeper (PyProof.Rows.envOfC qual (AH st) s'.heap.objs.size f cdv))->DM (LR Qw P w K mg base N qual (AH st) f cdv A outer s' H E).nox (Ab st) (tS K ⟨s.io,MG N.length s.io,s.ro⟩ none (Wh N.length s.ps.length s.io) Γn js body))
    (hΦ:∀ ds d bs,ds.length=s.ps.length->s.fn ds=some (d,bs)->∃ (R:Type) (k:Kt R) (r:R),body R (ds++List.replicate (N.length - s.ps.length) .non) k=some r/\(∀ m,k.nx m=some r->d=.non/\bs=s.io.map m.at)/\(∀ d' m,k.rt d' m=some r->d=d'/\bs=s.io.map m.at)):FnOk P w K mg base Qw (k+1) f fd s.ps (Nm K s):=by
  have ll:∀ n io,(Qy n io).length=n:=fun n io=>by unfold Qy;simp
  refine Fn.ok S (fun vs H Q E h=>?_) fun cdv A outer s' H vs Q E hr h=>⟨_,hb cdv A outer s' H E hr,?_⟩
  · obtain ⟨g,ds,Pa,r,_⟩:=h;have:=r.len.2;rw [ll] at this;simpa using this
  · obtain ⟨g,ds,Pa,r,d,bs,e,q⟩:=h;have l1:=r.len.1;have l2:=r.len.2;rw [ll] at l1 l2;rw [jv] at l2;have r0:Rel K g H (Wh N.length s.ps.length s.io) (ds++List.replicate (N.length - s.ps.length) .non) (L2.start N vs) Pa:=by
      unfold L2.start Wh;rw [l2];exact r.pad _
    have hv:∀ {σ':St},Io s.io (L2.start N vs) σ'->∀ i∈s.io,(σ'[i]?).join=vs[i]?:=fun {σ'} hi i hm=>by
      rw [hi i hm];unfold L2.start;have hl:i < vs.length:=by rw [l2];exact hio i hm
      rw [kK (by simpa using hl),kN];cases vs[i]?<;>rfl
    have rg:∀ i∈s.io,(MG N.length s.io)[i]?=some (some 1):=fun i hi=>by
      unfold MG;rw [kN,lJ (by have:=hio i hi;omega),kn,if_pos (jy.mpr hi)]
    obtain ⟨RT,kt,rt,hb0,hnx,hrt⟩:=hΦ ds d bs l1 e;have fin:∀ {d':Dv} {m':M} {g':G} {P' Pv:Fp} {σ':St} {v:V} {H':Hp},d=d'/\bs=s.io.map m'.at->Step g Pa H g' (fun a=>P' a\/Pv a) H'->Io s.io (L2.start N vs) σ'->Rep K g' H' s.ro d' v Pv->Rel K g' H' (MG N.length s.io) m' σ' P'->Disj P' Pv->Q v H':=fun {d' m' g' P' Pv σ' v H'} hk st io rv r' n=>by
      obtain ⟨rfl,rfl⟩:=hk;obtain ⟨Pb,hbk,sb⟩:=r'.pick nd rg;refine q g' H' v Pv Pb (st.less fun a z=>z.elim .inr fun z=>.inl (sb a z)) rv ?_ fun a z w=>n a (sb a w) z
      have e:(s.io.map fun i=>(σ'[i]?).join)=s.io.map fun i=>(vs[i]?).map id:=List.map_congr_left fun i hi=>by rw [hv io i hi];cases vs[i]?<;>rfl
      unfold Bk;rw [<- e];exact hbk
    refine ⟨g,_,Pa,r0,RT,kt,rt,hb0,⟨fun Γ' m' g' P' σ' H' eΓ hk ag st' i' r'=>?_,fun d' m' g' P' Pv σ' v H' hk ag st' i' rv r' n=>fin (hrt d' m' hk) st' i' rv r' n,(fun _ _ _ _ _ _ z=>by cases z),fun _ _ _ _ _ _ z=>by cases z⟩⟩;subst eΓ;obtain ⟨g2,P2,s2,r2⟩:=r'.weaken (by unfold JQ at hw;exact hw);exact fin (Pv:=nop) (v:=.non) (hnx m' hk) ((st'.trans s2).less fun _ z=>z.elim id False.elim) i' (by unfold Rep;exact ⟨rfl,fun _ z=>z⟩) r2 fun _ _ z=>z
noncomputable def EA (as:List Ar) (i:Nat):Option Nat:=match as[i]? with | some (.rf j)=>some j | _=>none
def slots (as:List Ar) (io:List Nat):List Nat:=io.map fun i=>(EA as i).getD 0
def VT (as:List Ar) (io:List Nat):Bool:=(List.range as.length).all fun i=>((EA as i).isSome == io.contains i) && (List.range as.length).all fun j=>i == j || (EA as i).isNone || (EA as i != EA as j)
noncomputable def EB:List Nat->List Dv->M->M
 | s::sl,b::bs,m=>EB sl bs (m.set s b)
 | _,_,m=>m
def Mm (s:Sig) (as:List Ar):Ev Dv:=fun R m k=>AK as R m fun ds m1=>s.cps R ds fun d bs=>k d (EB (slots as s.io) bs m1)
theorem Gq:∀ (sl:List Nat) (bs:List Dv) (m:M),(EB sl bs m).length=m.length
 | [],_,_=>rfl
 | _::_,[],_=>rfl
 | s::sl,b::bs,m=>by unfold EB;rw [Gq,kR]
theorem Ee:∀ (sl:List Nat) (bs:List Dv) (m:M) (j:Nat),j∉sl->(EB sl bs m)[j]?=m[j]?
 | [],_,_,_,_=>rfl
 | _::_,[],_,_,_=>rfl
 | s::sl,b::bs,m,j,h=>by
  unfold EB;rw [Ee sl bs _ j fun z=>h (kB _ z),kQ fun z=>h (by rw [z];exact kA)]
theorem Ny:∀ (sl:List Nat) (bs:List Dv) (m:M) (k j:Nat) (b:Dv),sl.Nodup->sl[k]?=some j->bs[k]?=some b->j < m.length->(EB sl bs m)[j]?=some b
 | [],_,_,k,_,_,_,h,_,_=>by simp at h
 | _::_,[],_,k,_,_,_,_,h,_=>by simp at h
 | s::sl,c::bs,m,k,j,b,nd,h1,h2,hl=>by
  unfold EB;rw [mC] at nd;cases k with
  | zero =>
   simp at h1 h2;subst h1 h2;rw [Ee sl bs _ s nd.1,kW hl]
  | succ k=>exact Ny sl bs _ k j b nd.2 (by simpa using h1) (by simpa using h2) (by rw [kR];exact hl)
theorem Gr (sl:List Nat) (bs:List Dv) (m:M):Bd sl m (EB sl bs m):=⟨Gq ..,fun i h=>by
 unfold M.at;rw [kL,kL,Ee sl bs m i h]⟩
section
variable {K:W.Frag} {g:G} {H:Hp} {σ:St} {Γ Γ':Gm} {js:List Nat} {m:M} {P:Fp} {as:List Ar}
theorem AL.len:∀ {as:List Ar} {ds:List Dv} {vs:List V},AL K g H Γ m σ as ds vs->ds.length=as.length/\vs.length=as.length
 | [],ds,vs,h=>by unfold AL at h;obtain ⟨rfl,rfl⟩:=h;exact ⟨rfl,rfl⟩
 | .ev _ _ _ _::as,ds,vs,h=>by
  unfold AL at h;obtain ⟨d,v,ds',vs',rfl,rfl,_,h2⟩:=h;simp [h2.len.1,h2.len.2]
 | .rf i::as,ds,vs,h=>by
  unfold AL at h;obtain ⟨v,ds',vs',rfl,rfl,_,_,h3⟩:=h;simp [h3.len.1,h3.len.2]
theorem AL.get:∀ {as:List Ar} {ds:List Dv} {vs:List V} {i:Nat},AL K g H Γ m σ as ds vs->i < as.length->∃ d v,ds[i]?=some d/\vs[i]?=some v/\((∃ j,EA as i=some j/\d=m.at j/\σ[j]?=some (some v))\/(EA as i=none/\Rep K g H 0 d v nop))
 | [],_,_,i,_,h=>by simp at h
 | .ev _ _ _ f::as,ds,vs,i,h,hi=>by
  unfold AL at h;obtain ⟨d,v,ds',vs',rfl,rfl,h1,h2⟩:=h;cases i with
  | zero=>exact ⟨d,v,rfl,rfl,.inr ⟨rfl,h1⟩⟩
  | succ i =>
   obtain ⟨d,v,e1,e2,z⟩:=h2.get (i:=i) (by simpa using hi);exact ⟨d,v,by simpa using e1,by simpa using e2,z⟩
 | .rf j::as,ds,vs,i,h,hi=>by
  unfold AL at h;obtain ⟨v,ds',vs',rfl,rfl,h1,_,h3⟩:=h;cases i with
  | zero=>exact ⟨_,v,rfl,rfl,.inl ⟨j,rfl,rfl,h1⟩⟩
  | succ i =>
   obtain ⟨d,v,e1,e2,z⟩:=h3.get (i:=i) (by simpa using hi);exact ⟨d,v,by simpa using e1,by simpa using e2,z⟩
theorem Ec {i j:Nat} (h:EA as i=some j):i < as.length:=by
 unfold EA at h;cases e:as[i]? with
 | none=>rw [e] at h;cases h
 | some a=>exact (jo.mp e).1
theorem ZN {io:List Nat} (h:VT as io=true):(∀ i,i < as.length->((EA as i).isSome=true↔i∈io))/\∀ i i' j,EA as i=some j->EA as i'=some j->i=i':=by
 unfold VT at h;rw [ka] at h;refine ⟨fun i hi=>?_,fun i i' j e e'=>?_⟩
 ·have:=h i (lT.mpr hi);rw [jh,beq_iff_eq] at this;rw [this.1,jy]
 ·have:=h i (lT.mpr (Ec e));rw [jh,ka] at this;have:=this.2 i' (lT.mpr (Ec e'));rw [e,e'] at this;simp at this;exact this
theorem Fg {s:Sig} {g1:G} {H1:Hp} {m1:M} {P1:Fp} {ds:List Dv} {vs:List V} {d:Dv} {bs:List Dv} (hs:VT as s.io=true) (hn:as.length=s.ps.length) (nd:s.io.Nodup) (hio:∀ i∈s.io,i < s.ps.length) (hl:∀ i∈slots as s.io,Γ'[i]?=some (some 1)) {Q:VK}
    (r1:Rel K g1 H1 Γ' m1 σ P1) (ar:AL K g1 H1 Γ' m1 σ as ds vs) (e1:s.fn ds=some (d,bs))
    (q:∀ g2 P2 Pv v H2,Step g1 P1 H1 g2 (fun a=>P2 a\/Pv a) H2->Rep K g2 H2 s.ro d v Pv->Rel K g2 H2 Γ' (EB (slots as s.io) bs m1) σ P2->Disj P2 Pv->Q v H2):Nm K s vs H1 Q E0:=by
  obtain ⟨hs1,hs2⟩:=ZN hs;have r1':=r1;obtain ⟨zd,F,h1,h4⟩:=r1'
  -- the slots,one by one
  have sl:∀ {i j:Nat},EA as i=some j->i∈s.io/\j∈slots as s.io:=fun {i j} e=>by
    have hi:=(hs1 i (Ec e)).mp (by rw [e];rfl);exact ⟨hi,lY.mpr ⟨i,hi,by rw [e];rfl⟩⟩
  have sl2:∀ {i:Nat},i∈s.io->∃ j,EA as i=some j:=fun {i} hi=>lX.mp ((hs1 i (by rw [hn];exact hio i hi)).mpr hi)
  have ndS:(slots as s.io).Nodup:=by
    unfold slots;rw [mv,List.pairwise_map];refine (mv.mp nd).imp_of_mem fun {a b} ha hb n z=>?_
    obtain ⟨ja,ea⟩:=sl2 ha;obtain ⟨jb,eb⟩:=sl2 hb;rw [ea,eb] at z;simp only [Option.getD_some] at z;subst z;exact n (hs2 a b ja ea eb)
  let Fa:Nat->Fp:=fun i a=>∃ j,EA as i=some j/\F j a
  have al:=ar.len;have rA:Rel K g1 H1 (Qy s.ps.length s.io) ds (vs.map some) fun a=>∃ i,Fa i a:=by
    refine ⟨zd,Fa,⟨by unfold Qy;simp;rw [al.1,hn],by unfold Qy;simp;rw [al.2,hn],fun i o ei=>?_,fun i ei a ⟨j,ej,_⟩=>?_,fun i i' n a ⟨j,ej,z⟩ ⟨j',ej',z'⟩=>?_⟩,fun _=>Iff.rfl⟩
    · obtain ⟨hi,eo⟩:=Dl ei;obtain ⟨d',v,d1,d2,z⟩:=ar.get (i:=i) (by rw [hn];exact hi);refine ⟨d',v,d1,by rw [kN,d2];rfl,?_⟩;rcases z with ⟨j,ej,rfl,hv⟩ | ⟨ej,z⟩
      · have:o=1:=by
          have:=Option.some.inj eo;rw [if_pos (jy.mpr (sl ej).1)] at this;exact this
        subst this;obtain ⟨d3,v3,e3,e4,r3⟩:=h1.rep j 1 (hl j (sl ej).2);rw [hv] at e4;cases e4;have eq:Fa i=F j:=funext fun a=>propext ⟨fun ⟨j',z,q⟩=>by rw [ej] at z;cases z;exact q,fun q=>⟨j,ej,q⟩⟩
        rw [Iu e3,eq];exact r3
      · have:o=0:=by
          have:=Option.some.inj eo;rw [if_neg fun w=>?_] at this
          · exact this
          · obtain ⟨j,w⟩:=sl2 (jy.mp w);rw [ej] at w;cases w
        subst this;have eq:Fa i=nop:=nop_iff fun a ⟨j,w,_⟩=>by rw [ej] at w;cases w
        rw [eq];exact z
    · refine ei (if s.io.contains i then 1 else 0) ?_;unfold Qy;rw [kN,lJ (by rw [<- hn];exact Ec ej)];rfl
    · by_cases w:j=j'
      · subst w;exact n (hs2 i i' j ej ej')
      · exact h1.dj j j' w a z z'
  let Fr:Nat->Fp:=fun j a=>j∉slots as s.io/\F j a
  have rr:Rel K g1 H1 (Le (slots as s.io) Γ') m1 σ fun a=>∃ j,Fr j a:=by
    refine ⟨zd,Fr,⟨by unfold Le;simp;exact h1.l1,by unfold Le;simp;exact h1.l2,fun j o ej=>?_,fun j ej a ⟨n,z⟩=>?_,fun i j n a q z=>h1.dj i j n a q.2 z.2⟩,fun _=>Iff.rfl⟩
    · obtain ⟨nj,ej⟩:=DG ej;obtain ⟨d',v,d1,d2,z⟩:=h1.rep j o ej;have eq:Fr j=F j:=funext fun a=>propext ⟨fun w=>w.2,fun w=>⟨nj,w⟩⟩
      exact ⟨d',v,d1,d2,by rw [eq];exact z⟩
    · refine h1.out j (fun o w=>ej o ?_) a z;unfold Le;have hj:=(jo.mp w).1;rw [kN,lJ hj,kn,if_neg (fun q=>n (jy.mp q)),kL,w];rfl
  have dA:Disj (fun a=>∃ j,Fr j a) fun a=>∃ i,Fa i a:=fun a ⟨j,nj,z⟩ ⟨i,j',ej,z'⟩=>by
    by_cases w:j=j'
    · subst w;exact nj (sl ej).2
    · exact h1.dj j j' w a z z'
  have okA:FpOk g1 H1 fun a=>∃ i,Fa i a:=rA.fpOk
  refine ⟨g1,ds,_,rA,d,bs,e1,fun g2 H2 v Pv Pb s2 rv hb n=>?_⟩;have rr2:=rr.held s2 okA dA;have dB:Disj (fun a=>∃ j,Fr j a) fun a=>Pv a\/Pb a:=s2.out rr.fpOk dA
  obtain ⟨zd2,Fq,q1,q4⟩:=rr2;obtain ⟨zb,Fb,b1,b4⟩:=hb;have lb:bs.length=s.io.length:=by have:=b1.l1;simpa using this
  have fq:∀ {a:Addr},(∃ j,Fr j a)↔∃ j,Fq j a:=fun {a}=>q4 a
  let Fz:Nat->Fp:=fun j a=>(∃ k,(slots as s.io)[k]?=some j/\Fb k a)\/Fq j a
  have nq:∀ j∈slots as s.io,∀ a,¬ Fq j a:=fun j hj=>q1.out j fun o w=>(DG w).1 hj
  have rz:Rel K g2 H2 Γ' (EB (slots as s.io) bs m1) σ fun a=>∃ j,Fz j a:=by
    refine ⟨zd2,Fz,⟨by rw [Gq];exact h1.l1,h1.l2,fun j o ej=>?_,fun j ej a z=>?_,fun i j n' a z w=>?_⟩,fun _=>Iff.rfl⟩
    · have hjl:j < m1.length:=by rw [h1.l1];exact (jo.mp ej).1
      by_cases hj:j∈slots as s.io
      · obtain ⟨kk,hk1⟩:=mB hj;have hkk:kk < s.io.length:=by have:=(jo.mp hk1).1;unfold slots at this;simpa using this
        rw [hl j hj] at ej;cases ej;obtain ⟨b,u,c1,c2,c3⟩:=b1.rep kk 1 (by rw [kN,jl hkk];rfl);have ei:(slots as s.io)[kk]?=some ((EA as s.io[kk]).getD 0):=by unfold slots;rw [kN,jl hkk];rfl
        obtain ⟨jj,ejj⟩:=sl2 (mM hkk);rw [hk1,ejj] at ei;have ejj':j=jj:=Option.some.inj ei;subst ejj';obtain ⟨d3,v3,d1,d2,z3⟩:=ar.get (i:=s.io[kk]) (Ec ejj);rw [kN,jl hkk,kn,d2] at c2;have eu:u=v3:=by simpa using c2.symm
        subst eu;have hv:σ[j]?=some (some u):=by
          rcases z3 with ⟨j2,e2',_,z3⟩ | ⟨e2',_⟩
          · rw [ejj] at e2';cases e2';exact z3
          · rw [ejj] at e2';cases e2'
        have eq:Fz j=Fb kk:=funext fun a=>propext ⟨fun w=>w.elim (fun ⟨k',h',w⟩=>by
            have h1':=jo.mp hk1;have h2':=jo.mp h';have:k'=kk:=(mm (h₀:=h2'.1) (h₁:=h1'.1) ndS).mp (h2'.2.trans h1'.2.symm);exact this▸w) fun w=>(nq j hj a w).elim,fun w=>.inl ⟨kk,hk1,w⟩⟩
        exact ⟨b,u,Ny _ bs m1 kk j b ndS hk1 c1 hjl,hv,by rw [eq];exact c3⟩
      · have ej':(Le (slots as s.io) Γ')[j]?=some (some o):=by
          unfold Le;rw [kN,lJ (jo.mp ej).1,kn,if_neg (fun w=>hj (jy.mp w)),kL,ej];rfl
        obtain ⟨d3,v3,d1,d2,r3⟩:=q1.rep j o ej';have eq:Fz j=Fq j:=funext fun a=>propext ⟨fun w=>w.elim (fun ⟨k',h',_⟩=>(hj (kh h')).elim) id,.inr⟩
        exact ⟨d3,v3,by rw [Ee _ _ _ _ hj];exact d1,d2,by rw [eq];exact r3⟩
    · rcases z with ⟨k',h',z⟩ | z
      · exact ej 1 (hl j (kh h'))
      · refine q1.out j (fun o w=>ej o (DG w).2) a z
    · rcases z with ⟨k1,h1',z⟩ | z
      · rcases w with ⟨k2,h2',w⟩ | w
        · by_cases kk:k1=k2
          · subst kk;rw [h1'] at h2';exact n' (Option.some.inj h2')
          · exact b1.dj k1 k2 kk a z w
        · exact dB a (fq.mpr ⟨j,w⟩) (.inr ((b4 a).mpr ⟨k1,z⟩))
      · rcases w with ⟨k2,h2',w⟩ | w
        · exact dB a (fq.mpr ⟨i,z⟩) (.inr ((b4 a).mpr ⟨k2,w⟩))
        · exact q1.dj i j n' a z w
  refine q g2 _ Pv v H2 ((s2.frame (R:=fun a=>∃ j,Fr j a)).sub (fun a z=>?_) fun a z=>?_) rv rz fun a z w=>?_
  · rcases z with ⟨i,j,_,z⟩ | ⟨j,_,z⟩
    · exact (h4 a).mpr ⟨j,z⟩
    · exact (h4 a).mpr ⟨j,z⟩
  · rcases z with ⟨j,z⟩ | z
    · rcases z with ⟨k',_,z⟩ | z
      · exact .inl (.inr ((b4 a).mpr ⟨k',z⟩))
      · exact .inr (fq.mpr ⟨j,z⟩)
    · exact .inl (.inl z)
  · obtain ⟨j,z⟩:=z;rcases z with ⟨k',_,z⟩ | z
    · exact n a w ((b4 a).mpr ⟨k',z⟩)
    · exact dB a (fq.mpr ⟨j,z⟩) (.inl w)
theorem UA {s:Sig} (c:AA Γ as Γ' js) (hs:VT as s.io=true) (hn:as.length=s.ps.length) (nd:s.io.Nodup) (hio:∀ i∈s.io,i < s.ps.length) (hl:∀ i∈slots as s.io,Γ'[i]?=some (some 1)) {Q:VK}
    (h:tE K Γ s.ro Γ' (js++slots as s.io) (Mm s as) σ H Q):BP K as σ H fun vs H1=>Nm K s vs H1 Q E0:=by
  obtain ⟨g,m,P,r,R,k,res,e,q⟩:=h;refine AI as r c e fun ds m1 g1 P1 vs H1 hk ag st ar r1=>?_
  rw [s.eq] at hk;obtain ⟨⟨d,bs⟩,e1,e2⟩:=bind_some' hk;exact Fg hs hn nd hio hl r1 ar e1 fun g2 P2 Pv v H2 st2 rv rz n=>q d _ g2 P2 Pv v H2 e2 (ag.trans (Gr _ bs m1)) (st.trans st2) rv rz n
mutual
noncomputable def nol:Dv->Bool
 | .non | .bl _ | .int _ | .str _=>true
 | .tup ds=>nols ds
 | _=>false
noncomputable def nols:List Dv->Bool
 | []=>true
 | d::ds=>nol d && nols ds
end
mutual
theorem OE {g':G}:∀ {o o':Nat} {d:Dv} {v:V} {Pv:Fp},Rep K g' H o d v Pv->nol d=true->Rep K g H o' d v nop
 | _,_,.non,_,_,h,_ | _,_,.bl _,_,_,h,_ | _,_,.int _,_,_,h,_ | _,_,.str _,_,_,h,_=>by unfold Rep at h ⊢;exact ⟨h.1,fun _ z=>z⟩
 | _,_,.tup ds,v,_,h,e=>by
  unfold Rep at h ⊢;obtain ⟨a,vs,e1,h1,h2⟩:=h;unfold nol at e;exact ⟨a,vs,e1,h1,Kp h2 e⟩
 | _,_,.lst _,_,_,_,e | _,_,.dct _ _,_,_,_,e | _,_,.ref _,_,_,_,e | _,_,.scr _,_,_,_,e | _,_,.ty _,_,_,_,e | _,_,.mtp _,_,_,_,e | _,_,.dti _,_,_,_,e=>by unfold nol at e;cases e
theorem Kp {g':G}:∀ {o o':Nat} {ds:List Dv} {vs:List V} {Pv:Fp},Reps K g' H o ds vs Pv->nols ds=true->Reps K g H o' ds vs nop
 | _,_,[],_,_,h,_=>by unfold Reps at h ⊢;exact ⟨h.1,fun _ z=>z⟩
 | _,_,d::ds,_,_,h,e=>by
  unfold Reps at h ⊢;obtain ⟨v,r,P1,P2,e1,h1,h2,_,_⟩:=h;unfold nols at e;rw [jh] at e;exact ⟨v,r,nop,nop,e1,OE h1 e.1,Kp h2 e.2,fun _ z=>z.elim,fun a=>⟨fun z=>z.elim,fun z=>z.elim id id⟩⟩
end
theorem AL.fz (r:Rel K g H Γ m σ P):∀ {as:List Ar} {ds:List Dv} {vs:List V},AL K g H Γ m σ as ds vs->Reps K (g.add P) H 0 ds vs nop
 | [],ds,vs,h=>by unfold AL at h;obtain ⟨rfl,rfl⟩:=h;exact Reps.nil
 | .ev _ _ _ f::as,ds,vs,h=>by
  unfold AL at h;obtain ⟨d,v,ds',vs',rfl,rfl,h1,h2⟩:=h;exact (Reps.cons (h1.freeze (P:=P) fun _ z=>z.elim) (AL.fz r h2) fun _ z=>z.elim).iff fun a=>⟨fun z=>z.elim,fun z=>z.elim id id⟩
 | .rf i::as,ds,vs,h=>by
  unfold AL at h;obtain ⟨v,ds',vs',rfl,rfl,h1,⟨o,_,ho⟩,h3⟩:=h;obtain ⟨v',P1,e,k,sb⟩:=r.see ho;rw [h1] at e;cases e;exact (Reps.cons (k.freeze (P:=P) sb) (AL.fz r h3) fun _ z=>z.elim).iff fun a=>⟨fun z=>z.elim,fun z=>z.elim id id⟩
theorem WQ {n:Nat} {ds:List Dv} {vs:List V} (zd:Zd g H) (h:Reps K g H 0 ds vs nop) (hn:ds.length=n):Rel K g H (Qy n []) ds (vs.map some) nop:=by
 refine ⟨zd,fun _=>nop,⟨by unfold Qy;simp [hn],by unfold Qy;simp [<- hn,h.len],fun i o e=>?_,fun i e a z=>z,fun i j n a z=>z.elim⟩,fun a=>⟨fun z=>z.elim,fun ⟨i,z⟩=>z⟩⟩;obtain ⟨hi,e⟩:=Dl e;have eo:o=0:=(Option.some.inj e);subst eo;obtain ⟨v,_,ev,rv,_⟩:=h.get (jl (by omega:i < ds.length));exact ⟨_,v,jl (by omega),by rw [kN,ev];rfl,rv.z⟩
def Jc (s:Sig) (as:List Ar):Ev Dv:=fun R m k=>AK as R m fun ds m1=>s.cps R ds fun d _=>bif nol d then k d m1 else none
theorem QY {s:Sig} (c:AA Γ as Γ' js) (hs:s.io=[]) (hn:as.length=s.ps.length) {Q:VK} (h:tE K Γ 1 Γ' js (Jc s as) σ H Q):BP K as σ H fun vs H1=>Nm K s vs H1 Q E0:=by
 obtain ⟨g,m,P,r,R,k,res,e,q⟩:=h;refine AI as r c e fun ds m1 g1 P1 vs H1 hk ag st ar r1=>?_
 rw [s.eq] at hk;obtain ⟨⟨d,bs⟩,e1,e2⟩:=bind_some' hk;cases c:nol d with
 | false=>simp only [c,cond_false] at e2;cases e2
 | true =>
  simp only [c,cond_true] at e2;have fs:Step g1 P1 H1 (g1.add P1) nop H1:=Step.freeze r1.fpOk;refine ⟨g1.add P1,ds,nop,by rw [hs];exact WQ (fs.zd r1.zd) (ar.fz r1) (ar.len.1.trans hn),d,bs,e1,fun g' H' v Pv Pb s2 rv _ _=>?_⟩;have sm:NV H1 H':=fun b o hb=>s2.keep b o hb fun z=>z
  exact q d m1 g1 P1 nop v H' e2 ag ((st.trans (Step.same sm)).less fun _ z=>z.elim id False.elim) (OE rv c) (r1.same sm) fun _ _ z=>z
end
end R
namespace L2
open PySem PySem.Spec PyProof.Rows
section
variable {X:Cx}
def jG:R2:=fun x y H Q=>∃ a v,x=.ref a/\Jx H a y (some v)/\Q v H
theorem fC (hu:X.A.units+1 < cLine):Qu X jG:=by
 intro value slice pins s σ H x y v u Q I rx ry h hs;obtain ⟨a,z,rfl,g,q⟩:=h;obtain rfl:v=Value.ref a:=rx;have hT:=LO I g;have h2:=QT (Q:=EP X pins σ Q) (E:=X.xe) (A:=X.A) hu I g ry fun w' s3 I3 rw'=>⟨z,H,I3,rw',q⟩
 unfold subscriptTail;refine wpAny_bind ?_;rw [getitemInPython_of_ne hT.not_modules];refine wpAny_bind (wpAny_specialOf hT PySem.F.slot_dict_getitem.lookup ?_);have fin:wpAny (model X.prog X.w) X.A (subscripted slice false (.ref a) u) (fun r s₃=>wpAny (model X.prog X.w) X.A (letTemporaryGo value (.ref a) r >>= fun _=>pure r) (EP X pins σ Q) X.xe s₃) X.xe s:=by
  rw [hs];exact wpAny_operating (wpAny_mono h2 (fun r s₃ h₃=>wpAny_bind (wpAny_letTemporaryGo (wpAny_pure h₃))) fun _ _ x=>x)
 first
  | exact wpAny_pure (wpAny_bind fin)
  | exact wpAny_bind (wpAny_pure (wpAny_bind fin))
  | exact wpAny_bind fin
def jF:Lm:=fun o i v H Q=>∃ a H',o=.ref a/\Ur H a i v H'/\Q H'
theorem ZP (hu:X.A.units+1 < cLine):Jw X jF:=by
 intro pins s σ H o i v ov iv u Q I ro ri rv h;obtain ⟨a,H',rfl,g,q⟩:=h;obtain rfl:ov=Value.ref a:=ro;exact QS hu I g ri rv fun s4 I4=>⟨H',I4,q⟩
theorem Jw.or {t t':Lm} (h:Jw X t) (h':Jw X t'):Jw X (fun o i v H Q=>t o i v H Q\/t' o i v H Q):=by
 intro pins s σ H o i v ov iv u Q I ro ri rv q;rcases q with q | q
 ·exact h pins s σ H o i v ov iv u Q I ro ri rv q
 ·exact h' pins s σ H o i v ov iv u Q I ro ri rv q
def eD (neg:Bool):R2:=fun y x H Q=>∃ a o,x=.ref a/\Jx H a y o/\Q (.bl (if neg then !o.isSome else o.isSome)) H
theorem aO (hu:X.A.units+1 < cLine):CQ X (compareOp .In) (eD false):=by
 intro pins s σ H y x u v Q I ry rx h;obtain ⟨a,o,rfl,g,q⟩:=h;obtain rfl:v=Value.ref a:=rx;exact iN hu I g ry fun s3 I3=>⟨.bl o.isSome,H,I3,rfl,q⟩
def Xz:List V->Hp->VK->Prop:=fun xs H Q=>∃ a kvs,xs=[V.ref a]/\H a=some (.dK kvs)/\Q (.int kvs.length) H
theorem ND:BC X (.builtin "len") Xz:=Qc
end
end L2
namespace R
open PySem L2
def OG:Dv->Option BE
 | .int i=>some (.inl i)
 | .str l=>some (.inr (tx l))
 | _=>none
def LQ (k:BE):List BE->List Dv->Option Dv
 | j::ks,d::ds=>if j=k then some d else LQ k ks ds
 | _,_=>none
def Wk (k:BE) (ks:List BE):List BE:=if ks.any (fun j=>decide (j=k))=true then ks else ks++[k]
def QU (k:BE) (x:Dv):List BE->List Dv->List Dv
 | j::ks,d::ds=>(if j=k then x else d)::QU k x ks ds
 | _,_=>[]
def Wj (k:BE) (x:Dv) (ks:List BE) (ds:List Dv):List Dv:=if ks.any (fun j=>decide (j=k))=true then QU k x ks ds else ds++[x]
section
variable {K:W.Frag} {g:G} {H:Hp}
theorem JS {o:Nat} {d:Dv} {v:V} {P:Fp} {k:BE} (h:Rep K g H o d v P) (e:OG d=some k):v=kV k:=by
 cases d with
 | int i=>cases e;unfold Rep at h;exact h.1
 | str l=>cases e;unfold Rep at h;exact h.1
 | _=>cases e
theorem LP {k:BE}:∀ {ks:List BE} {ds:List Dv} {us:List V} {R:Fp} {d:Dv},Reps K g H 0 ds us R->LQ k ks ds=some d->∃ v,Ez (ks.zip us) k=some v/\Rep K g H 0 d v nop
 | [],ds,us,R,d,_,e=>by cases ds<;>cases e
 | j::ks,[],us,R,d,_,e=>by cases e
 | j::ks,x::ds,us,R,d,h,e=>by
  unfold Reps at h;obtain ⟨v,r,P1,P2,rfl,h1,h2,_⟩:=h;unfold LQ at e;split at e
  ·rename_i c;cases e;exact ⟨v,by rw [ko];exact DN c,h1.z⟩
  ·rename_i c;obtain ⟨w,e1,e2⟩:=LP h2 e;exact ⟨w,by rw [ko,DO c];exact e1,e2⟩
theorem Ie {k:BE}:∀ {ks:List BE} {ds:List Dv} {us:List V},ks.length=ds.length->ds.length=us.length->(Ez (ks.zip us) k).isSome=(LQ k ks ds).isSome
 | [],[],_,_,_=>rfl
 | j::ks,d::ds,[],_,h=>by cases h
 | j::ks,d::ds,u::us,h1,h2=>by
  have ih:=Ie (k:=k) (ks:=ks) (ds:=ds) (us:=us) (by simpa using h1) (by simpa using h2);rw [ko];unfold LQ
  by_cases c:j=k
  ·rw [DN (p:=(j,u)) c,if_pos c];rfl
  ·rw [DO (p:=(j,u)) c,if_neg c];exact ih
theorem Tr {k:BE} {x:Dv} {w:V} {ks:List BE} {ds:List Dv} {us:List V} {R:Fp} (hl:ks.length=ds.length) (h:Reps K g H 0 ds us R) (hx:Rep K g H 0 x w nop) :
    ∃ us',FU (ks.zip us) k w=(Wk k ks).zip us'/\Reps K g H 0 (Wj k x ks ds) us' nop/\(Wk k ks).length=(Wj k x ks ds).length:=by
  have hl2:ks.length=us.length:=by rw [hl,h.len]
  have any_eq:∀ {ks:List BE} {us:List V},ks.length=us.length->((ks.zip us).any fun kv=>decide (kv.1=k))=ks.any fun j=>decide (j=k):=fun {ks us} h=>by
    induction ks generalizing us with
    | nil=>rfl
    | cons j ks ih =>
      cases us with
      | nil=>cases h
      | cons u us=>rw [ko,lS,lS,ih (by simpa using h)]
  unfold FU Wk Wj;rw [any_eq hl2]
  by_cases c:(ks.any fun j=>decide (j=k))=true
  · rw [if_pos c,if_pos c,if_pos c];have:∀ {ks:List BE} {ds:List Dv} {us:List V} {R:Fp},ks.length=ds.length->Reps K g H 0 ds us R->∃ us',((ks.zip us).map fun kv=>if kv.1=k then (kv.1,w) else kv)=ks.zip us'/\Reps K g H 0 (QU k x ks ds) us' nop/\ks.length=(QU k x ks ds).length:=fun {ks ds us R} hl h=>by
      induction ks generalizing ds us R with
      | nil=>exact ⟨[],by simp,by cases ds<;>exact Reps.nil,by cases ds<;>rfl⟩
      | cons j ks ih =>
        cases ds with
        | nil=>cases hl
        | cons d ds =>
          unfold Reps at h;obtain ⟨v,r,P1,P2,rfl,h1,h2,_⟩:=h;obtain ⟨us',e1,e2,e3⟩:=ih (by simpa using hl) h2;refine ⟨(if j=k then w else v)::us',?_,?_,by simp [QU];omega⟩
          · rw [ko,jz,ko,e1]
            by_cases q:j=k<;>simp [q]
          · unfold QU;refine ((Reps.cons (P1:=nop) (P2:=nop) ?_ e2 (fun _ z=>z.elim)).iff fun a=>⟨fun z=>z.elim,fun z=>z.elim id id⟩)
            by_cases q:j=k
            · rw [if_pos q,if_pos q];exact hx
            · rw [if_neg q,if_neg q];exact h1.z
    exact this hl h
  · rw [if_neg c,if_neg c,if_neg c];refine ⟨us++[w],?_,?_,by simp [hl]⟩
    · rw [List.zip_append hl2];rfl
    · exact (Reps.app (P:=nop) (Q:=nop) h.z ((Reps.cons (P1:=nop) (P2:=nop) hx Reps.nil fun _ z=>z.elim).iff fun a=>⟨fun z=>z.elim,fun z=>z.elim id id⟩) fun _ z=>z.elim).iff fun a=>⟨fun z=>z.elim,fun z=>z.elim id id⟩
theorem Wi {o:Nat} {ks:List BE} {ds:List Dv} {v:V} {P:Fp} (h:Rep K g H o (.dct ks ds) v P):∃ a us,v=.ref a/\H a=some (.dK (ks.zip us))/\ks.length=ds.length/\Reps K g H 0 ds us nop:=by
 unfold Rep at h;obtain ⟨a,us,e,h1,_,_,⟨h5,R,h6⟩,_⟩:=h;exact ⟨a,us,e,h1,h5,h6.z⟩
theorem WA {ks:List BE} {ds:List Dv} {v:V} {P:Fp} (h:Rep K g H 1 (.dct ks ds) v P):∃ a us,v=.ref a/\H a=some (.dK (ks.zip us))/\ks.length=ds.length/\Reps K g H 0 ds us nop /\
    ∀ ks' ds' us',ks'.length=ds'.length->Reps K g H 0 ds' us' nop->Step g P H g P (upd H a (.dK (ks'.zip us')))/\Rep K g (upd H a (.dK (ks'.zip us'))) 1 (.dct ks' ds') (.ref a) P:=by
  have ok:=h.fpOk;unfold Rep at h;obtain ⟨a,us,e,h1,h2,h3,⟨h5,R,h6⟩,h4⟩:=h;have pa:P a:=(h4 a).mpr ⟨by decide,rfl⟩;refine ⟨a,us,e,h1,h5,h6.z,fun ks' ds' us' hl hr=>?_⟩;have st:Step g P H g P (upd H a (.dK (ks'.zip us'))):=by
    refine ⟨fun b o hb n=>?_,fun b hb=>?_,fun _ z=>z,fun _ z=>.inl z,⟨[],by simp⟩,fun _ z=>.inl z,fun z b hb q=>?_⟩
    · unfold upd;rw [if_neg fun e=>n (by rw [e];exact pa)];exact hb
    · unfold upd at hb;split at hb
      · cases hb
      · exact hb
    · unfold upd at q;split at q
      · cases q
      · exact z b hb q
  refine ⟨st,?_⟩;unfold Rep;exact ⟨a,us',rfl,by unfold upd;rw [if_pos rfl],(fun z=>(Nat.one_ne_zero z).elim),(fun _=>h3 (by decide)),⟨hl,nop,hr.held st ok fun _ z=>z.elim⟩,h4⟩
end
noncomputable abbrev Mu:=Dv->List Dv->Option (Dv×Dv)
def Qt (K:W.Frag) (p:Mu) (R:V->List V->Hp->VK->Prop):Prop:=∀ g H x v P ds us r y Q,Zd g H->Rep K g H 1 x v P->Reps K g H 0 ds us nop->p x ds=some (r,y) ->
 (∀ w H' P',Step g P H g P' H'->Rep K g H' 1 y v P'->Rep K g H' 0 r w nop->Q w H')->R v us H Q
noncomputable def kind:Dv->String
 | .lst _ => "list"
 | .scr _ => "list"
 | .str _ => "str"
 | .int _ => "int"
 | .dti _ => "dict"
 | .dct _ _ => "dict"
 | .tup _ => "tuple"
 | _ => "?"
def HZ {α:Type} (T:String) (d:Dv) (o:Option α):Option α:=if kind d=T then o else none
theorem DV {α:Type} {T:String} {d:Dv} {o:Option α} {a:α} (h:HZ T d o=some a):kind d=T/\o=some a:=by
 unfold HZ at h;split at h
 ·rename_i z;exact ⟨z,h⟩
 ·cases h
def TR (T:String) (i:Nat) (p:Mu) (fa:Ev (List Dv)):Ev Dv:=fun R m k=>HZ T (m.at i) (fa R m fun ds m1=>(p (m1.at i) ds).bind fun r=>k r.1 (m1.set i r.2))
section
variable {K:W.Frag} {g:G} {H:Hp} {σ:St} {Γ Γ':Gm} {js:List Nat} {as:List Ar}
theorem Lr {o:Nat} {d:Dv} {v:V} {P:Fp} {T:String} (h:Rep K g H o d v P) (e:kind d=T) (hT:T = "list" \/ T = "str" \/ T = "int" \/ T = "dict"):gO K T v H:=by
 subst e;cases d with
 | lst ds=>unfold Rep at h;obtain ⟨a,vs,P',rfl,h1,_⟩:=h;exact .inl ⟨rfl,vs,.inl (.inl h1.1)⟩
 | scr ns=>unfold Rep at h;obtain ⟨⟨a,rfl,h1⟩,_⟩:=h;exact .inl ⟨rfl,_,h1.sq⟩
 | str l=>unfold Rep at h;rw [h.1];rfl
 | int i=>unfold Rep at h;rw [h.1];rfl
 | dti l=>unfold Rep at h;obtain ⟨a,rfl,h1,_⟩:=h;exact .inr (.inr (.inl ⟨rfl,.inr ⟨_,h1⟩⟩))
 | dct ks l=>unfold Rep at h;obtain ⟨a,vs,rfl,h1,_⟩:=h;exact .inr (.inr (.inl ⟨rfl,.inl ⟨_,h1⟩⟩))
 | _=>rcases hT with h | h | h | h<;>simp [kind] at h
theorem WL {T:String} {i:Nat} {p:Mu} {R:V->List V->Hp->VK->Prop} (hR:Qt K p R) (hT:T = "list" \/ T = "str" \/ T = "int" \/ T = "dict") (c:AA Γ as Γ' js) (he:evd as=true) (h0:∃ o,Γ[i]?=some (some o)) (hi:Γ'[i]?=some (some 1)) {Q:VK}
    (h:tE K Γ 0 Γ' (js++[i]) (TR T i p (AK as)) σ H Q):dG K T R (FB i) (BP K as) σ H Q:=by
  obtain ⟨g,m,P,r,R',k,res,e,q⟩:=h;obtain ⟨e0,e⟩:=DV e;obtain ⟨o0,h0⟩:=h0;obtain ⟨v0,P0,ev0,rv0,_⟩:=r.see h0;refine ⟨v0,ev0,Lr rv0 e0 hT,AI as r c e fun ds m1 g1 P1 vs H1 hk ag s ar r1=>?_⟩;obtain ⟨⟨rs,y⟩,e1,e2⟩:=bind_some' hk;obtain ⟨v,Pa,Pr,ev,em,rv,r2,n,hP⟩:=r1.take hi;rw [ev0] at ev;cases ev;refine hR g1 H1 _ v0 Pa ds vs rs y Q r1.zd rv (ar.reps he) e1 fun w H2 P' s2 ry rr=>?_
  have r3:=r2.held s2 rv.fpOk fun a q z=>n a z q
  have n3:=s2.out r2.fpOk fun a q z=>n a z q
  have hil:i < Γ'.length:=(jo.mp hi).1;obtain ⟨P4,r4,sp⟩:=r3.putIn hil ev0 ry fun a q z=>n3 a z q
  rw [DS hi] at r4;refine q rs _ g1 P4 nop w H2 e2 (ag.trans Bd.set) (s.trans ((s2.frame (R:=Pr)).sub (fun a z=>(hP a).mpr z) fun a z=>z.elim (fun z=>sp a z) False.elim)) rr r4 fun _ _ z=>z
theorem Step.upd {a:Addr} {o:HO} {P':Fp} (h:H a≠none) (hs:∀ b,P' b->b=a\/H b=none):Step g (fun b=>b=a) H g P' (upd H a o):=by
 have dm:∀ b,L2.upd H a o b=none->H b=none:=fun b q=>by
  by_cases hb:b=a
  ·subst hb;rw [BS] at q;cases q
  ·rw [AO hb] at q;exact q
 exact ⟨fun b u q n=>by rw [AO n];exact q,dm,fun _ q=>q,fun _ q=>.inl q,⟨[],by simp⟩,hs,fun z b q e=>z b q (dm b e)⟩
theorem Eh {xs:List Dv} {v:V} {P:Fp} (h:Rep K g H 1 (.lst xs) v P):∃ a vs,v=.ref a/\H a=some (.lst vs)/\¬ g.Z a/\Reps K g H 0 xs vs nop/\(∀ b,P b↔b=a) /\
    ∀ ws,Step g P H g P (upd H a (.lst ws))/\(∀ {d:Dv} {u:V},Rep K g H 0 d u nop->Rep K g (upd H a (.lst ws)) 0 d u nop)/\∀ ys,Reps K g H 0 ys ws nop->Rep K g (upd H a (.lst ws)) 1 (.lst ys) (.ref a) P:=by
  unfold Rep at h;obtain ⟨a,vs,P',rfl,h1,h2,h3,h5⟩:=h;have hP:∀ b,P b↔b=a:=fun b=>by rw [h5 b];exact ⟨fun z=>z.elim (fun z=>z.2) fun z=>(h2.none0 b z).elim,fun z=>.inl ⟨by decide,z⟩⟩
  have eP:P=fun b=>b=a:=funext fun b=>propext (hP b)
  have hz:=h1.2.2 (by decide);have oka:FpOk g H fun b=>b=a:=fun b q=>by subst q;exact ⟨by rw [h1.1];trivial,hz⟩
  refine ⟨a,vs,rfl,h1.1,hz,h2.z,hP,fun ws=>?_⟩;have st:Step g (fun b=>b=a) H g (fun b=>b=a) (upd H a (.lst ws)):=Step.upd (by rw [h1.1];simp) fun b z=>.inl z
  refine ⟨by rw [eP];exact st,fun r=>r.held st oka fun _ z=>z.elim,fun ys r=>?_⟩;unfold Rep;exact ⟨a,ws,nop,rfl,⟨BS,(fun z=>by cases z),fun _=>hz⟩,r.held st oka fun _ z=>z.elim,fun z=>z,fun b=>by rw [hP b];exact ⟨fun z=>.inl ⟨by decide,z⟩,fun z=>z.elim (fun z=>z.2) False.elim⟩⟩
theorem CL:∀ {ds:List Dv} {vs:List V},Reps K g H 0 ds vs nop↔ds.length=vs.length/\∀ (i:Nat) (d:Dv) (v:V),ds[i]?=some d->vs[i]?=some v->Rep K g H 0 d v nop
 | [],vs=>⟨fun h=>⟨h.len,fun i d v e=>by simp at e⟩,fun h=>by
  have:vs=[]:=kl h.1.symm;subst this;exact Reps.nil⟩
 | x::xs,vs=>by
  refine ⟨fun h=>⟨h.len,fun i d v e1 e2=>?_⟩,fun h=>?_⟩
  ·obtain ⟨v',P,e',r,_⟩:=h.get e1;rw [e2] at e';cases e';exact r.z
  ·cases vs with
   | nil=>simp at h
   | cons v vs =>
    exact (Reps.cons (h.2 0 x v rfl rfl) (CL.mpr ⟨by simpa using h.1,fun i d u e1 e2=>h.2 (i+1) d u (by simpa using e1) (by simpa using e2)⟩) fun _ z=>z.elim).iff fun a=>⟨fun z=>z.elim,fun z=>z.elim id id⟩
theorem Bz {ds es:List Dv} {vs us:List V} (h:Reps K g H 0 ds vs nop) (k:Reps K g H 0 es us nop):Reps K g H 0 (ds++es) (vs++us) nop:=(Reps.app h k fun _ z=>z.elim).iff fun a=>⟨fun z=>z.elim,fun z=>z.elim id id⟩
theorem FR {d:Dv} {v:V} (h:Rep K g H 0 d v nop):Reps K g H 0 [d] [v] nop:=(Reps.cons h Reps.nil fun _ z=>z.elim).iff fun a=>⟨fun z=>z.elim,fun z=>z.elim id id⟩
theorem AU {d:Dv} {ds:List Dv} {vs:List V} (h:Reps K g H 0 (d::ds) vs nop):∃ v us,vs=v::us/\Rep K g H 0 d v nop/\Reps K g H 0 ds us nop:=by
 unfold Reps at h;obtain ⟨v,r,P1,P2,rfl,h1,h2,_⟩:=h;exact ⟨v,r,rfl,h1.z,h2.z⟩
theorem AY {vs:List V} (h:Reps K g H 0 [] vs nop):vs=[]:=by unfold Reps at h;exact h.1
theorem PM {ds:List Dv} {vs:List V} {d:Dv} {v:V} (j:Nat) (h:Reps K g H 0 ds vs nop) (r:Rep K g H 0 d v nop):Reps K g H 0 (ds.set j d) (vs.set j v) nop:=by
 have h0:=CL.mp h;refine CL.mpr ⟨by simp [h0.1],fun i x y e1 e2=>?_⟩;rcases Dg e1 with ⟨rfl,rfl⟩ | ⟨n,e1⟩
 ·rcases Dg e2 with ⟨_,rfl⟩ | ⟨n,_⟩
  ·exact r
  ·exact (n rfl).elim
 ·rcases Dg e2 with ⟨z,_⟩ | ⟨_,e2⟩
  ·exact (n z).elim
  ·exact h0.2 i x y e1 e2
theorem FT {o:Nat}:Rep K g H o .non .non nop:=by unfold Rep;exact ⟨rfl,fun _ z=>z⟩
noncomputable def BB (x:Dv) (ds:List Dv):Option (Dv×Dv):=match x,ds with
 | .lst xs,[d]=>if xs.length<=1000000 then some (.non,.lst (xs++[d])) else none
 | _,_=>none
noncomputable def Ju (x:Dv) (ds:List Dv):Option (Dv×Dv):=match x,ds with
 | .lst xs,[]=>match xs.getLast? with
  | some d=>some (d,.lst xs.dropLast)
  | none=>none
 | _,_=>none
noncomputable def Dy (x:Dv) (ds:List Dv):Option (Dv×Dv):=match x,ds with
 | .lst xs,[.lst ys]=>if xs.length+ys.length<=1000000 then some (.non,.lst (xs++ys)) else none
 | _,_=>none
theorem Pj:Qt K BB Nw:=fun g H x v P ds us r y Q zd rx rd e k=>by
 unfold BB at e;split at e
 ·rename_i xs d;split at e
  ·rename_i hl;cases e;obtain ⟨a,vs,rfl,ha,hz,hx,hP,go⟩:=Eh rx;obtain ⟨u,us',rfl,hu,h2⟩:=AU rd;cases AY h2;obtain ⟨s,hd,mk⟩:=go (vs++[u]);exact ⟨a,vs,u,rfl,rfl,ha,mX (by rw [<- hx.len];exact hl) (by decide),k _ _ P s (mk _ (Bz hx (FR hu))) FT⟩
  ·cases e
 ·cases e
theorem aT:Qt K Ju dq:=fun g H x v P ds us r y Q zd rx rd e k=>by
 unfold Ju at e;split at e
 ·rename_i xs;split at e
  ·rename_i d el;cases e;obtain ⟨a,vs,rfl,ha,hz,hx,hP,go⟩:=Eh rx;cases AY rd;obtain ⟨s,hd,mk⟩:=go vs.dropLast;have h0:=CL.mp hx;rw [List.getLast?_eq_getElem?] at el;obtain ⟨u,P1,e2,r2,_⟩:=hx.get el;refine ⟨a,vs,u,rfl,rfl,ha,by rw [<- h0.1];exact e2,k _ _ P s (mk _ ?_) (hd r2.z)⟩;refine CL.mpr ⟨by simp [h0.1],fun i d v e3 e4=>?_⟩;rw [List.getElem?_dropLast] at e3 e4;split at e3
   ·split at e4
    ·exact h0.2 i d v e3 e4
    ·cases e4
   ·cases e3
  ·cases e
 ·cases e
theorem Pi:Qt K Dy Nv:=fun g H x v P ds us r y Q zd rx rd e k=>by
 unfold Dy at e;split at e
 ·rename_i xs ys;split at e
  ·rename_i hl;cases e;obtain ⟨a,vs,rfl,ha,hz,hx,hP,go⟩:=Eh rx;obtain ⟨u,us',rfl,hu,h2⟩:=AU rd;cases AY h2;unfold Rep at hu;obtain ⟨b,ws,P',rfl,h1,h3,_⟩:=hu;obtain ⟨s,hd,mk⟩:=go (vs++ws);exact ⟨a,b,vs,ws,rfl,rfl,ha,h1.1,kM (by rw [<- hx.len,<- h3.len];exact hl) (by decide),k _ _ P s (mk _ (Bz hx h3.z)) FT⟩
  ·cases e
 ·cases e
end
def YS (i:Nat) (p:Dv->Dv->Dv->Option Dv) (f:Ev Dv) (fk:Ev (List Dv)):Es:=fun R m k=>f R m fun d m1=>fk R m1 fun ks m2=>match ks with | [j]=>(p (m2.at i) j d).bind fun y=>k.nx (m2.set i y) | _=>none
def Bm (x k d:Dv):Option Dv:=match x,k with
 | .lst xs,.int k=>(Me xs.length k).bind fun j=>some (.lst (xs.set j d))
 | .dct ks ds,k=>(OG k).bind fun k=>if ks.length<=1000000 then some (.dct (Wk k ks) (Wj k d ks ds)) else none
 | _,_=>none
def Up (K:W.Frag) (p:Dv->Dv->Dv->Option Dv) (T:Lm):Prop:=∀ g H x v P j vj d u y (Q:Hp->Prop),Zd g H->Rep K g H 1 x v P->RA K g H [j] [vj]->Rep K g H 0 d u nop->p x j d=some y->(∀ H' P',Step g P H g P' H'->Rep K g H' 1 y v P'->Q H')->T v vj u H Q
theorem ZO {K:W.Frag}:Up K Bm (fun o i v H Q=>SG o i v H Q\/jF o i v H Q):=fun g H x v P j vj d u y Q zd rx rj rd e q=>by
 unfold Bm at e;split at e
 ·rename_i xs kk;obtain ⟨jj,ej,e⟩:=bind_some' e;cases e;obtain ⟨a,vs,rfl,ha,hz,hx,hP,go⟩:=Eh rx;unfold RA at rj;obtain ⟨w,wr,o,Po,ew,_,rw',_⟩:=rj;cases ew;rw [rep_int rw'];obtain ⟨s,hd,mk⟩:=go (vs.set jj u);exact .inl ⟨a,vs,kk,jj,rfl,rfl,ha,by rw [<- hx.len];exact ej,q _ P s (mk _ (PM jj hx rd))⟩
 ·rename_i ks ds;obtain ⟨k,ek,e⟩:=bind_some' e;split at e
  ·rename_i hl;cases e;obtain ⟨a,us,rfl,ha,hl2,hx,go⟩:=WA rx;unfold RA at rj;obtain ⟨w,wr,o,Po,ew,_,rw',_⟩:=rj;cases ew;obtain ⟨us',e1,e2,e3⟩:=Tr (k:=k) hl2 hx rd;obtain ⟨s,mk⟩:=go _ _ us' e3 e2;refine .inr ⟨a,_,rfl,?_,q _ P s mk⟩;rw [JS rw' ek,<- e1];refine Ur.k ha ?_;have:(ks.zip us).length<=ks.length:=by rw [List.length_zip];omega
   have z:(1000000:Nat) < sizeLine:=by decide
   omega
  ·cases e
 ·cases e
section
variable {K:W.Frag} {F:Fr} {Γl:Option Gm} {Γ Γ1 Γ':Gm} {js js2:List Nat} {i:Nat} {f:Ev Dv} {a:Ar} {p:Dv->Dv->Dv->Option Dv} {T:Lm}
theorem Rt (hp:Up K p T) (c:AA Γ1 [a] Γ' js2) (h0:∃ o,Γ1[i]?=some (some o)) (hi:Γ'[i]?=some (some 1)) {D:Ends} {σ:St} {H:Hp} (h:tS K F Γl Γ (some Γ') (js++(js2++[i])) (YS i p f (AK [a])) D σ H):KF (tE K Γ 0 Γ1 js f) (TF (FB i) (FD K a) T) D σ H:=by
 obtain ⟨g,m,P,r,R,k,res,e,q⟩:=h;refine ⟨g,m,P,r,R,_,res,e,fun d m1 g1 P1 Pv u H1 hk ag s rv r1 n=>?_⟩;obtain ⟨o0,h0⟩:=h0;obtain ⟨v0,P0,ev0,_,_⟩:=r1.see h0;refine ⟨v0,ev0,?_⟩;have rz:=rv.z;have s':Step g P H g1 P1 H1:=s.less fun _ z=>.inl z
 have key:BP K [a] σ H1 fun vs H2=>∃ w,vs=[w]/\T v0 w u H2 fun H3=>D.nx σ H3:=by
  refine AI [a] r1 c hk fun ds m2 g2 P2 vs H2 hk2 ag2 s2 ar r2=>?_
  have al:=ar.len;have ra:=ar.ra r2
  match ds,al.1,hk2,ra with
  | [j],_,hk2,ra =>
   have ra0:=ra;unfold RA at ra;obtain ⟨w,wr,o,Po,rfl,_,h1,h2⟩:=ra;unfold RA at h2;subst h2;obtain ⟨y,e1,e2⟩:=bind_some' hk2;obtain ⟨v,Pa,Pr,ev,em,rx,r3,n3,hP⟩:=r2.take hi;rw [ev0] at ev;cases ev;refine ⟨w,rfl,hp g2 H2 _ v0 Pa j w d u y _ r2.zd rx ra0 (rz.held s2 r1.fpOk fun _ z=>z.elim) e1 fun H3 P' s3 ry=>?_⟩;have r4:=r3.held s3 rx.fpOk fun a q z=>n3 a z q
   have n4:=s3.out r3.fpOk fun a q z=>n3 a z q
   obtain ⟨P5,r5,sp⟩:=r4.putIn (jo.mp hi).1 ev0 ry fun a q z=>n4 a z q
   rw [DS hi] at r5;exact q.nx Γ' _ g2 P5 σ H3 rfl e2 (ag.trans (ag2.trans Bd.set)) ((s'.trans s2).trans ((s3.frame (R:=Pr)).sub (fun a z=>(hP a).mpr z) fun a z=>sp a z)) Io.refl r5
 have mono:∀ (Q1 Q2:VK),(∀ v H,Q1 v H->Q2 v H)->FD K a σ H1 Q1->FD K a σ H1 Q2:=by
  intro Q1 Q2 h12 t;cases a with
  | ev Γa Γb ja fa =>
   obtain ⟨g,m,P,r,R,k,res,e,q⟩:=t;exact ⟨g,m,P,r,R,k,res,e,fun d m' g' P' Pv v H' h1 h2 h3 h4 h5 h6=>h12 _ _ (q d m' g' P' Pv v H' h1 h2 h3 h4 h5 h6)⟩
  | rf i=>obtain ⟨v,e,q⟩:=t;exact ⟨v,e,h12 _ _ q⟩
 refine mono _ _ (fun v H2 z=>?_) key;obtain ⟨w,ew,z⟩:=z;cases ew;exact z
end
def TU (T:String) (a:Ar) (as:List Ar) (p:Pr):Ev Dv:=match a with
 | .rf i=>fun R m k=>HZ T (m.at i) (AK as R m fun ds m1=>(p (m1.at i::ds)).bind fun d=>k d m1)
 | .ev _ _ _ f=>fun R m k=>f R m fun x m1=>HZ T x (AK as R m1 fun ds m2=>(p (x::ds)).bind fun d=>k d m2)
def cN (r:V->List V->Hp->VK->Prop):Os:=fun vs H Q=>match vs with | x::us=>r x us H Q | _=>False
theorem aU {K:W.Frag} {σ:St} {H:Hp} {Γ Γ':Gm} {js:List Nat} {T:String} {a:Ar} {as:List Ar} {p:Pr} {o:Nat} {r:V->List V->Hp->VK->Prop} (hp:AG K p o (cN r)) (hT:T = "list" \/ T = "str" \/ T = "int" \/ T = "dict") (c:AA Γ (a::as) Γ' js) {Q:VK}
    (h:tE K Γ o Γ' js (TU T a as p) σ H Q):dG K T r (FD K a) (BP K as) σ H Q:=by
  obtain ⟨g,m,P,rl,R',k,res,e,q⟩:=h;cases a with
  | rf i =>
    obtain ⟨e0,e⟩:=DV e;unfold AA at c;obtain ⟨⟨o0,h0⟩,⟨o1,hl1,h1⟩,c⟩:=c;obtain ⟨v0,P0,ev0,rv0,_⟩:=rl.see h0;refine ⟨v0,ev0,Lr rv0 e0 hT,AI as rl c e fun ds m1 g1 P1 vs H1 hk ag s ar r1=>?_⟩;obtain ⟨d,e1,e2⟩:=bind_some' hk;obtain ⟨v1,P1',ev1,rv1,_⟩:=r1.see h1;rw [ev0] at ev1;cases ev1;refine hp g1 H1 _ (v0::vs) d Q r1.zd (by unfold RA;exact ⟨v0,vs,o1,P1',rfl,hl1,rv1,ar.ra r1⟩) e1 fun v H2 nw=>?_
    obtain ⟨Pv,s2,h1,r2,n2⟩:=AW.go s r1 nw;exact q d m1 g1 P1 Pv v H2 e2 ag s2 h1 r2 n2
  | ev Γ1 Γ2 js1 f =>
    unfold AA at c;obtain ⟨rfl,js2,rfl,c⟩:=c;refine ⟨g,m,P,rl,R',_,res,e,fun x m1 g1 P1 Pv v0 H1 hk ag s rv r1 n=>?_⟩;obtain ⟨e0,hk⟩:=DV hk;have rz:=rv.z;have s':Step g P H g1 P1 H1:=s.less fun _ z=>.inl z
    refine ⟨Lr rz e0 hT,AI as r1 c hk fun ds m2 g2 P2 vs H2 hk2 ag2 s2 ar r2=>?_⟩;obtain ⟨d,e1,e2⟩:=bind_some' hk2;refine hp g2 H2 _ (v0::vs) d Q r2.zd (by unfold RA;exact ⟨v0,vs,0,nop,rfl,by decide,rz.held s2 r1.fpOk fun _ z=>z.elim,ar.ra r2⟩) e1 fun v H3 nw=>?_
    obtain ⟨Pw,s3,h1,r3,n3⟩:=AW.go (s'.trans s2) r2 nw;exact q d m2 g2 P2 Pw v H3 e2 (ag.trans ag2) s3 h1 r3 n3
theorem WN {K:W.Frag} {σ:St} {H:Hp} {Γ Γ':Gm} {js:List Nat} {a:Ar} {as:List Ar} {p:Pr} {o:Nat} {r:V->List V->Hp->VK->Prop} (hp:AG K p o (cN r)) (c:AA Γ (a::as) Γ' js) {Q:VK}
    (h:tE K Γ o Γ' js (TU "tuple" a as p) σ H Q):gr r (FD K a) (BP K as) σ H Q:=by
  obtain ⟨g,m,P,rl,R',k,res,e,q⟩:=h
  have ty:∀ {g:G} {H:Hp} {o:Nat} {d:Dv} {v:V} {P:Fp},Rep K g H o d v P->kind d = "tuple" -> ∃ a us,v=.ref a/\H a=some (.tup us):=fun {g H o d v P} h e=>by
    cases d with
    | tup ds=>unfold Rep at h;obtain ⟨a,vs,rfl,h1,_⟩:=h;exact ⟨a,vs,rfl,h1⟩
    | _=>simp [kind] at e
  cases a with
  | rf i =>
    obtain ⟨e0,e⟩:=DV e;unfold AA at c;obtain ⟨⟨o0,h0⟩,⟨o1,hl1,h1⟩,c⟩:=c;obtain ⟨v0,P0,ev0,rv0,_⟩:=rl.see h0;refine ⟨v0,ev0,ty rv0 e0,AI as rl c e fun ds m1 g1 P1 vs H1 hk ag s ar r1=>?_⟩;obtain ⟨d,e1,e2⟩:=bind_some' hk;obtain ⟨v1,P1',ev1,rv1,_⟩:=r1.see h1;rw [ev0] at ev1;cases ev1;refine hp g1 H1 _ (v0::vs) d Q r1.zd (by unfold RA;exact ⟨v0,vs,o1,P1',rfl,hl1,rv1,ar.ra r1⟩) e1 fun v H2 nw=>?_
    obtain ⟨Pv,s2,h1,r2,n2⟩:=AW.go s r1 nw;exact q d m1 g1 P1 Pv v H2 e2 ag s2 h1 r2 n2
  | ev Γ1 Γ2 js1 f =>
    unfold AA at c;obtain ⟨rfl,js2,rfl,c⟩:=c;refine ⟨g,m,P,rl,R',_,res,e,fun x m1 g1 P1 Pv v0 H1 hk ag s rv r1 n=>?_⟩;obtain ⟨e0,hk⟩:=DV hk;have rz:=rv.z;have s':Step g P H g1 P1 H1:=s.less fun _ z=>.inl z
    refine ⟨ty rz e0,AI as r1 c hk fun ds m2 g2 P2 vs H2 hk2 ag2 s2 ar r2=>?_⟩;obtain ⟨d,e1,e2⟩:=bind_some' hk2;refine hp g2 H2 _ (v0::vs) d Q r2.zd (by unfold RA;exact ⟨v0,vs,0,nop,rfl,by decide,rz.held s2 r1.fpOk fun _ z=>z.elim,ar.ra r2⟩) e1 fun v H3 nw=>?_
    obtain ⟨Pw,s3,h1,r3,n3⟩:=AW.go (s'.trans s2) r2 nw;exact q d m2 g2 P2 Pw v H3 e2 (ag.trans ag2) s3 h1 r3 n3
def evOr (f g:Ev Dv):Ev Dv:=fun R m k=>(f R m k).or (g R m k)
theorem ZA {K:W.Frag} {Γ Γ':Gm} {js:List Nat} {σ:St} {H:Hp} {o:Nat} {f g:Ev Dv} {Q:VK} (h:tE K Γ o Γ' js (evOr f g) σ H Q):tE K Γ o Γ' js f σ H Q\/tE K Γ o Γ' js g σ H Q:=by
 obtain ⟨g0,m,P,r,R,k,res,e,q⟩:=h;unfold evOr at e;cases e1:f R m k with
 | some z=>rw [e1] at e;exact .inl ⟨g0,m,P,r,R,k,z,e1,by cases e;exact q⟩
 | none=>rw [e1] at e;exact .inr ⟨g0,m,P,r,R,k,res,e,q⟩
def TM (i:Nat) (p:Dv->Dv->Dv->Option Dv) (d:Dv) (fk:Ev (List Dv)):Ev Unit:=fun R m k=>fk R m fun ks m2=>match ks with | [j]=>(p (m2.at i) j d).bind fun y=>k () (m2.set i y) | _=>none
noncomputable def YF (d:Dv):Option (Dv×Dv):=match d with
 | .tup [a,b]=>some (a,b)
 | _=>none
def YQ (i:Nat) (p:Dv->Dv->Dv->Option Dv) (f:Ev Dv) (f1 f2:Ev (List Dv)):Es:=fun R m k=>f R m fun d m1=>(YF d).bind fun t=>TM i p t.1 f1 R m1 fun _ m2=>TM i p t.2 f2 R m2 fun _ m3=>k.nx m3
section
variable {K:W.Frag} {F:Fr} {Γl:Option Gm} {Γ Γ1 Γ' Γ'':Gm} {js js2 js3:List Nat} {i:Nat} {f:Ev Dv} {a b:Ar} {p:Dv->Dv->Dv->Option Dv} {T:Lm}
theorem Nx (hp:Up K p T) (c:AA Γ1 [a] Γ' js2) (h0:∃ o,Γ1[i]?=some (some o)) (hi:Γ'[i]?=some (some 1)) {σ:St} {g1:G} {m1:M} {P1:Fp} {H1:Hp} {R:Type} {k:Unit->M->Option R} {res:R} {d:Dv} {u:V} {Q:St->Hp->Prop} (r1:Rel K g1 H1 Γ1 m1 σ P1) (rz:Rep K g1 H1 0 d u nop) (hk:TM i p d (AK [a]) R m1 k=some res)
    (q:∀ m' g' P' H',k () m'=some res->Bd (js2++[i]) m1 m'->Step g1 P1 H1 g' P' H'->Rel K g' H' Γ' m' σ P'->Q σ H'):TF (FB i) (FD K a) T u σ H1 Q:=by
  obtain ⟨o0,h0⟩:=h0;obtain ⟨v0,P0,ev0,_,_⟩:=r1.see h0;refine ⟨v0,ev0,?_⟩;have key:BP K [a] σ H1 fun vs H2=>∃ w,vs=[w]/\T v0 w u H2 fun H3=>Q σ H3:=by
    refine AI [a] r1 c hk fun ds m2 g2 P2 vs H2 hk2 ag2 s2 ar r2=>?_
    have al:=ar.len;have ra:=ar.ra r2
    match ds,al.1,hk2,ra with
    | [j],_,hk2,ra =>
      have ra0:=ra;unfold RA at ra;obtain ⟨w,wr,o,Po,rfl,_,h1,h2⟩:=ra;unfold RA at h2;subst h2;obtain ⟨y,e1,e2⟩:=bind_some' hk2;obtain ⟨v,Pa,Pr,ev,em,rx,r3,n3,hP⟩:=r2.take hi;rw [ev0] at ev;cases ev;refine ⟨w,rfl,hp g2 H2 _ v0 Pa j w d u y _ r2.zd rx ra0 (rz.held s2 r1.fpOk fun _ z=>z.elim) e1 fun H3 P' s3 ry=>?_⟩;have r4:=r3.held s3 rx.fpOk fun a q z=>n3 a z q
      have n4:=s3.out r3.fpOk fun a q z=>n3 a z q
      obtain ⟨P5,r5,sp⟩:=r4.putIn (jo.mp hi).1 ev0 ry fun a q z=>n4 a z q
      rw [DS hi] at r5;exact q _ g2 P5 H3 e2 (ag2.trans Bd.set) (s2.trans ((s3.frame (R:=Pr)).sub (fun a z=>(hP a).mpr z) fun a z=>sp a z)) r5
  have mono:∀ (Q1 Q2:VK),(∀ v H,Q1 v H->Q2 v H)->FD K a σ H1 Q1->FD K a σ H1 Q2:=by
    intro Q1 Q2 h12 t;cases a with
    | ev Γa Γb ja fa =>
      obtain ⟨g,m,P,r,R,k,res,e,q⟩:=t;exact ⟨g,m,P,r,R,k,res,e,fun d m' g' P' Pv v H' h1 h2 h3 h4 h5 h6=>h12 _ _ (q d m' g' P' Pv v H' h1 h2 h3 h4 h5 h6)⟩
    | rf i=>obtain ⟨v,e,q⟩:=t;exact ⟨v,e,h12 _ _ q⟩
  refine mono _ _ (fun v H2 z=>?_) key;obtain ⟨w,ew,z⟩:=z;cases ew;exact z
theorem VG (hp:Up K p T) (c:AA Γ1 [a] Γ' js2) (c2:AA Γ' [b] Γ'' js3) (h0:∃ o,Γ1[i]?=some (some o)) (hi:Γ'[i]?=some (some 1)) (hi2:Γ''[i]?=some (some 1)) {D:Ends} {σ:St} {H:Hp} (h:tS K F Γl Γ (some Γ'') (js++((js2++[i])++(js3++[i]))) (YQ i p f (AK [a]) (AK [b])) D σ H):KF (tE K Γ 0 Γ1 js f) (WZ K 2 (LC (TF (FB i) (FD K a) T) (LC (TF (FB i) (FD K b) T) Wa))) D σ H:=by
 obtain ⟨g,m,P,r,R,k,res,e,q⟩:=h;refine ⟨g,m,P,r,R,_,res,e,fun d m1 g1 P1 Pv u H1 hk ag s rv r1 n=>?_⟩;have rz:=rv.z;have s':Step g P H g1 P1 H1:=s.less fun _ z=>.inl z
 obtain ⟨⟨d1,d2⟩,ed,hk'⟩:=bind_some' hk;unfold YF at ed;split at ed
 ·cases ed;unfold Rep at rz;obtain ⟨l,us,rfl,h1,h2⟩:=rz;obtain ⟨u1,us1,rfl,ru1,h3⟩:=AU h2;obtain ⟨u2,us2,rfl,ru2,h4⟩:=AU h3;cases AY h4;refine ⟨l,[u1,u2],rfl,.inl (.inl h1),rfl,u1,[u2],rfl,?_⟩;refine Nx hp c h0 hi r1 ru1 hk' fun m2 g2 P2 H2 hk2 ag2 s2 r2=>?_
  refine ⟨u2,[],rfl,?_⟩;refine Nx hp c2 ⟨_,hi⟩ hi2 r2 (ru2.held s2 r1.fpOk fun _ z=>z.elim) hk2 fun m3 g3 P3 H3 hk3 ag3 s3 r3=>?_
  exact ⟨rfl,q.nx Γ'' _ g3 P3 σ H3 rfl hk3 (ag.trans (ag2.trans ag3)) ((s'.trans s2).trans s3) Io.refl r3⟩
 ·cases ed
end
end R
namespace L2
open PySem PySem.Spec PyProof.Rows
open AutoSeq1 (wpAny_loadPart')
section
variable {prog:Program} {w:World} {A:Around} {E:Value->Shared->Prop} {s:Shared}
theorem Hm {r:Addr} {a b c:Int} {t u v:Tok} {n:Nat} {Q:List Value->Shared->Prop} (hh:A.handled=none) (hr:IsRange s.heap r a b c t u v) (hsmall:Builtin.Range.small a b c=true) (hn:Builtin.Range.rangeSize a b c=n) (hlen:n<=2 ^ 20)
    (hQ:∀ (h':Heap) (tk:Nat) (acc:Array Value),(∀ b o,s.heap.get? b=some o->h'.get? b=some o)->ItemsOf (fun i v=>∃ t,v=.int (a+i * c) t) acc n->Q acc.toList { s with heap:=h',toks:=tk }):wpAny (model prog w) A (collect (.ref r)) Q E s:=by
  unfold collect;refine wpAny_bind (wpAny_runValue (codeAny_builtin F.entry_proto_collect ?_));rw [Around.under_plainId F.plain_proto_collect _]
  show wpAny _ A.in1 (newList [] >>= fun l=>again (.builtin "list.__iadd__" ⟨[l,.ref r],[]⟩)) _ _ s
  refine wpAny_bind (wpAny_newObj_type ?_);refine wpAny_pure ⟨plainId_quiet F.plain_list_iadd _,codeAny_builtin F.entry_list_iadd ?_⟩;rw [Around.under_plainId F.plain_list_iadd _]
  have hS:(s.heap.push { cls:=.type "list", data:=.seq ([]:List Value).toArray }).get? s.heap.objs.size=some { cls:=.type "list", data:=.seq #[] 0 }:=kD _ rfl
  show wpAny _ A.in1 (Builtin.List.listExtendWith (.ref s.heap.objs.size) (.ref r) (.ref s.heap.objs.size)) _ _ _;refine wpAny_extend_range (A:=A) (prog:=prog) (w:=w) (R:=fun r s'=>match r with
    | Except.ok (Flow.ret v)=>wpAny (model prog w) A (match v with
      | Value.ref a=>do
        let o <- load a
        match o.data with
        | Data.seq xs _=>pure xs.toList
        | _=>unsupported "internal:collect"
      | _=>unsupported "internal:collect") Q E s'
    | Except.ok _=>False
    | Except.error e=>E e s') (s:={ s with heap:=s.heap.push { cls:=.type "list", data:=.seq ([]:List Value).toArray } }) hh (jm _ hr) hsmall hn (by omega) s.heap.objs.size (.ref s.heap.objs.size) 0 hS fun h' tk acc' c' hk hS' hacc=>?_
  show wpAny _ A (load s.heap.objs.size >>= _) _ _ _;refine wpAny_bind (wpAny_load hS' ?_);exact wpAny_pure (hQ h' tk acc' (fun b o e=>hk b o (kP (kF e)) (jm _ e)) hacc)
end
theorem DK (r:Addr) (a b c:Int) (t u v:Tok) (n:Nat) (hsmall:Builtin.Range.small a b c=true) (hn:Builtin.Range.rangeSize a b c=n) (hlen:n<=2 ^ 20) :
    Meets (Builtin.«tuple.__new__» ⟨[.type "tuple", .ref r],[]⟩)
      (fun A R s=>A.handled=none/\IsRange s.heap r a b c t u v/\∀ (h':Heap) (tk:Nat) (acc:Array Value),(∀ b o,s.heap.get? b=some o->h'.get? b=some o)->ItemsOf (fun i v=>∃ t,v=.int (a+i * c) t) acc n ->
        R (.ok (.ret (.ref h'.objs.size))) { s with heap:=h'.push { cls:=.type "tuple", data:=.seq acc },toks:=tk }):=
  .of_wp fun prog w A R s h=>by
    obtain ⟨hh,hr,h⟩:=h;have hsub:=sub_tuple_self;have hinit:=init_tuple_lookup;have hmh:=madeHere_tuple
    have hT:s.TypeIs (.ref r) "range" := ⟨_,hr,rfl⟩
    have hh1:A.in1.handled=none:=hh
    wp_walk using wpAny_typeOf hT,Hm hh1 hr hsmall hn hlen
    intro h' tk acc hk hacc;show wpAny _ _ (Builtin.Tuple.tupleExact acc.toList.toArray >>= fun v=>ret v) _ _ _;unfold Builtin.Tuple.tupleExact;refine wpAny_bind (wpAny_newObj_type ?_ (show acc.toList.toArray.size<=sizeLine by simp only [Array.toArray_toList];rw [hacc.1,sizeLine_eq];omega));refine wpAny_pure ⟨_,rfl,?_⟩;have e:acc.toList.toArray=acc:=by simp
    rw [e];exact h h' tk acc hk hacc
theorem Ff {prog:Program} {w:World} {A:Around} {E:Value->Shared->Prop} {s:Shared} {Q:Value->Shared->Prop} {r:Addr} {a b c:Int} {t u v:Tok} {n:Nat} (hh:A.handled=none) (hr:IsRange s.heap r a b c t u v) (hsmall:Builtin.Range.small a b c=true) (hn:Builtin.Range.rangeSize a b c=n) (hlen:n<=2 ^ 20)
    (h:∀ (h':Heap) (tk:Nat) (acc:Array Value),(∀ b o,s.heap.get? b=some o->h'.get? b=some o)->ItemsOf (fun i v=>∃ t,v=.int (a+i * c) t) acc n->Q (.ref h'.objs.size) { s with heap:=h'.push { cls:=.type "tuple", data:=.seq acc },toks:=tk }) :
    wpAny (model prog w) A (call (.type "tuple") [.ref r]) Q E s:=by
  refine callType_new F.called_tuple (by decide) (F.typeCall_tuple_1 _) (F.newCall_tuple_1 _) (fun obj=>F.args_object_init_2 obj _) F.entry_tuple_new
    (DK r a b c t u v n hsmall hn hlen) ⟨hh,hr,fun h' tk acc hk hacc=>⟨⟨_,kD _ rfl,rfl⟩,h h' tk acc hk hacc⟩⟩
section
variable {X:Cx} {p1 p2 pos1 pos2:Pos} {es:List Expr} {e:Expr} {ta:TA}
abbrev Ng (ta:TA):TE:=fun σ H Q=>ta σ H fun vs H1=>∃ (i j:Int),(vs=[.int j]/\i=0\/vs=[.int i,.int j])/\(-(2 ^ 62)<=i/\i < 2 ^ 62/\-(2 ^ 62)<=j/\j < 2 ^ 62)/\(j - i).toNat<=1000000/\∀ l,H1 l=none->Q (.ref l) (upd H1 l (.tup ((List.range (j - i).toNat).map fun k=>.int (i+(k:Nat)))))
theorem IH {A:Around} {E:Value->Shared->Prop} {pins:List (Addr×Obj)} {σ:St} {H:Hp} {s:Shared} {Q:VK} {i j:Int} {t u v:Tok} {tk:Nat} (hh:A.handled=none) (I:Inv X pins σ H s) (h1:-(2 ^ 62)<=i) (h2:i < 2 ^ 62) (h3:-(2 ^ 62)<=j) (h4:j < 2 ^ 62) (hl:(j - i).toNat<=1000000)
    (q:∀ l,H l=none->Q (.ref l) (upd H l (.tup ((List.range (j - i).toNat).map fun k=>.int (i+(k:Nat)))))) :
    wpAny (model X.prog X.w) A (call (.type "tuple") [.ref s.heap.objs.size]) (fun v s'=>∃ x H',Inv X pins σ H' s'/\RelV x v/\Q x H') E { s with heap:=s.heap.push { cls:=.type "range", data:=.fields #[.int i t,.int j u,.int 1 v] },toks:=tk }:=by
  have hr:Builtin.Range.rangeSize i j 1=((j - i).toNat:Nat):=by rw [rangeSize_one];split<;>omega
  refine Ff (n:=(j - i).toNat) hh (IsRange.new ..) (small_one h1 h2 h3 h4) hr (by omega) fun h' tk' acc hk hacc=>?_
  have kp:∀ b o,s.heap.get? b=some o->h'.get? b=some o:=fun b o e=>hk b o (jm _ e)
  have hsz:(s.heap.push { cls:=.type "range", data:=.fields #[.int i t,.int j u,.int 1 v] }).objs.size=s.heap.objs.size+1:=lU ..
  have hv:AD ((List.range (j - i).toNat).map fun k=>V.int (i+(k:Nat))) acc.toList:=by
    have:∀ (n m:Nat) (l:List Value),l.length=n->(∀ (q:Nat) (v:Value),l[q]?=some v->∃ t,v=.int (i+((m+q:Nat):Int)) t)->AD ((List.range' m n).map fun k=>V.int (i+(k:Nat))) l:=by
      intro n
      induction n with
      | zero=>intro m l e _;cases l with | nil=>exact .nil | cons a b=>cases e
      | succ n ih =>
        intro m l e h;cases l with
        | nil=>cases e
        | cons a b =>
          rw [ml,jz];refine .cons ?_ (ih (m+1) b (by simpa using e) fun q v hv=>?_)
          · obtain ⟨t,rfl⟩:=h 0 a rfl;exact ⟨t,rfl⟩
          · obtain ⟨t,rfl⟩:=h (q+1) v (by simpa using hv);exact ⟨t,by rw [Nat.add_assoc,Nat.add_comm 1 q]⟩
    rw [List.range_eq_range'];refine this (j - i).toNat 0 acc.toList (by simp [hacc.1]) fun q v hv=>?_
    obtain ⟨t,e⟩:=hacc.2 q v (by simpa using hv);exact ⟨t,by rw [e];simp⟩
  have I1:Inv X pins σ H { s with heap:=h',toks:=tk' }:=I.kept (t':=tk') kp;refine ⟨.ref h'.objs.size,_,I1.laid (t':=tk') (fun b o e=>jm _ e) (ju _) (show An X.prog X.w _ _ _ (.tup ((List.range (j - i).toNat).map fun k=>.int (i+(k:Nat)))) from ⟨by rw [jv,lQ];exact kM hl (show 1000000<=sizeLine by decide),acc.toList,hv,?_⟩),rfl,q _ (I1.hok.fresh (ju _))⟩;have:=GH.new h' acc;have e:acc.toList.toArray=acc:=by simp
  rw [e];exact this
theorem Pc (hc:X.calm=true) (hgL:Gl X "tuple") (hmL:X.mg "tuple" = none) (hgR:Gl X "range") (hmR:X.mg "range" = none) (ha:PA X (e::es) ta)
    (hs1:starEach [.Call (.Name "range" p2) (e::es) [] pos2] X.env=(false,eval (.Call (.Name "range" p2) (e::es) [] pos2) X.env)::starEach [] X.env:=by rfl)
    (hpl1:(backTo pos1 (starEach [] X.env)).any (·.1)=false:=by rfl)
    (hs2:starEach (e::es) X.env=(false,eval e X.env)::starEach es X.env:=by rfl) (hpl2:(backTo pos2 (starEach es X.env)).any (·.1)=false:=by rfl) :
    PE X (.Call (.Name "tuple" p1) [.Call (.Name "range" p2) (e::es) [] pos2] [] pos1) (Ng ta):=by
  intro pins s σ H Q I h;refine wpAny_Call_Name_kw (BZ I hgL hmL PyProof.Rows.Boot.«tuple» ?_ (by decide) (by decide));refine kX ?_ hs1 hpl1;rw [hs1]
  show wpAny _ _ (spliced ((false,eval (.Call (.Name "range" p2) (e::es) [] pos2) X.env)::backTo pos1 (starEach [] X.env))) _ _ s
  refine Calls.spliced_cons ?_;refine wpAny_Call_Name_kw (BZ I hgR hmR boot_range ?_ (by decide) (by decide));refine kX (Ae (ha pos2 pins s σ H _ I h) fun us s1 ⟨vs,H1,I1,r1,q1⟩=>?_) hs2 hpl2;obtain ⟨i,j,ev,⟨b1,b2,b3,b4⟩,hl,q⟩:=q1;rcases ev with ⟨ev,rfl⟩ | ev
  · subst ev;cases r1 with
    | cons r rr =>
      cases rr;obtain ⟨t,rfl⟩:=r;refine call_range_1 (Calls.spliced_nil ?_);exact IH (I1.ok.hd hc) I1 b1 b2 b3 b4 hl q
  · subst ev;cases r1 with
    | cons r rr =>
      cases rr with
      | cons r' rr =>
        cases rr;obtain ⟨t,rfl⟩:=r;obtain ⟨t',rfl⟩:=r';refine call_range_2 (Calls.spliced_nil ?_);exact IH (I1.ok.hd hc) I1 b1 b2 b3 b4 hl q
end
end L2
namespace L2
open PySem PySem.Spec PyProof.Rows
noncomputable def Uu (d:Value):List (Str×Value):=[("default", d)]
section
variable {prog:Program} {w:World} {A:Around} {E:Value->Shared->Prop} {s:Shared}
theorem Pp {x d:Value} {Q:Value->Shared->Prop} (hc:wpAny (model prog w) A.in1 (Builtin.«max» ⟨[x],Uu d⟩) (fun fin s'=>match fin with
      | .done f=>wants Q E (.ok f) s'
      | .again c'=>c'.quiet=true/\codeAny (model prog w) A c' (wants Q E) s') (fun e s'=>wants Q E (.error e) s') s):wpAny (model prog w) A (call (.builtin "max") [x] (Uu d)) Q E s:=by
  refine wpAny_call (codeAny_call_builtin F.plain_max F.entry_max ?_)
  have ha:argsOk "max" ⟨[x],Uu d⟩:=by unfold argsOk;kernel_rfl
  simp only [checkBuiltinCall,F.kind_max]
  cases hsig:Manifest.signature? "max" with
  | none=>exact wpAny_pure hc
  | some sig =>
    have ha':Bind.checkArgs "max" sig ⟨[x],Uu d⟩=pure ():=by simpa only [argsOk,hsig] using ha
    simp only [ha'];exact wpAny_pure hc
end
section
variable {prog:Program} {w:World} {A:Around} {R:Result->Shared->Prop} {I:Addr} {fp wr:List Addr} {n:Nat} {P:Nat->Value->Prop} {St:Nat->Heap->Prop} {d:Value}
def ir (P:Nat->Value->Prop) (bt:Nat->Nat->Bool) (S:Addr) (j:Nat) (h:Heap):Prop:=∃ c,(j=0/\h.get? S=some { cls:=.type "list", dict:=none,data:=.seq #[] c,slots:=#[] })\/(0 < j/\∃ v,P (argBest bt (j - 1)) v/\h.get? S=some { cls:=.type "list", dict:=none,data:=.seq #[v,v] c,slots:=#[] })
theorem Pq (W:Walks prog w A.in1 I fp wr n P St) (bt:Nat->Nat->Bool) (hcmp:CmpOf prog w A.in1 .Gt P bt) (S:Addr) (hSf:S∉fp):∀ (k j:Nat) (s:Shared),n - j=k->j<=n->St j s.heap->ir P bt S j s.heap ->
    (∀ v h' tk,(n=0/\v=d\/0 < n/\P (argBest bt (n - 1)) v)->(∀ b o,b∉wr->b≠S->s.heap.get? b=some o->h'.get? b=some o)->R (.ok (.ret v)) { s with heap:=h',toks:=tk }) ->
    codeAny (model prog w) A (.builtin "max.loop" ⟨[.ref I,.none,.ref S],Uu d⟩) R s:=by
  have hSw:S∉wr:=fun h=>hSf (W.sub _ h)
  have hname:(toString "max" ++ toString ".loop" : String) = "max.loop" := by decide
  intro k
  induction k with
  | zero =>
    intro j s hk hj hst hB hR;have hin:j=n:=by omega
    subst hin;refine codeAny_builtin F.entry_max_loop ?_;rw [Around.under_plainId F.plain_max_loop _];show wpAny _ A.in1 (seqItems? (.ref S) >>= _) _ _ s;obtain ⟨c,⟨j0,hS⟩ | ⟨j0,v,hv,hS⟩⟩:=hB
    · refine wpAny_bind (wpAny_seqItems hS rfl ?_);show wpAny _ A.in1 (tryCatch (pyNext (.ref I)) _ >>= _) _ _ s;refine wpAny_bind (wpAny_tryCatch (W.done s _ _ hst fun h' tk hk'=>?_));show wpAny _ A.in1 (rule _ >>= fun _=>ret d) _ _ _;exact wpAny_bind (wpAny_rule (wpAny_pure (hR d h' tk (.inl ⟨j0,rfl⟩) fun b o hw _ e=>hk' b o hw e)))
    · refine wpAny_bind (wpAny_seqItems hS rfl ?_);show wpAny _ A.in1 (tryCatch (pyNext (.ref I)) _ >>= _) _ _ s;refine wpAny_bind (wpAny_tryCatch (W.done s _ _ hst fun h' tk hk'=>?_));have hS':=hk' S _ hSw hS;show wpAny _ A.in1 (updateSeq S (fun _=>#[]) >>= _) _ _ _;refine wpAny_bind (wpAny_updateSeq hS' rfl (wpAny_bind (wpAny_letGo (wpAny_pure ?_))));exact hR v _ tk (.inr ⟨j0,hv⟩) fun b o hbw hbS e=>(km _ _ (Ne.symm hbS)).trans (hk' b o hbw e)
  | succ k ih =>
    intro j s hk hj hst hB hR;have hlt:j < n:=by omega
    refine codeAny_builtin F.entry_max_loop ?_;rw [Around.under_plainId F.plain_max_loop _];show wpAny _ A.in1 (seqItems? (.ref S) >>= _) _ _ s;have keep:∀ {h':Heap} {f:Array Value->Array Value},(∀ b o,b∉wr->s.heap.get? b=some o->h'.get? b=some o)->∀ b o,b∉wr->b≠S->s.heap.get? b=some o->(h'.update S (Obj.mapSeq f)).get? b=some o:=fun hk' b o hw hn e=>(km _ _ (Ne.symm hn)).trans (hk' b o hw e)
    obtain ⟨c,⟨rfl,hS⟩ | ⟨j0,vb,hvb,hS⟩⟩:=hB
    · refine wpAny_bind (wpAny_seqItems hS rfl ?_);show wpAny _ A.in1 (tryCatch (pyNext (.ref I)) _ >>= _) _ _ s;refine wpAny_bind (wpAny_tryCatch (W.item 0 s _ _ hlt hst fun v h' tk hP hst' hk'=>?_));have hS':=hk' S _ hSw hS;show wpAny _ A.in1 (updateSeq S (fun _=>#[v,v]) >>= _) _ _ _;refine wpAny_bind (wpAny_updateSeq hS' rfl ?_);rw [hname];exact wpAny_pure ⟨plainId_quiet F.plain_max_loop _,ih 1 _ (by omega) hlt (W.frame _ _ _ hst' fun b hbf o e=>(km _ _ (fun h:S=b=>hSf (h▸hbf))).trans e) ⟨_,.inr ⟨by decide,v,hP,lP _ hS' rfl⟩⟩ fun v' h2 tk2 hP' hk2=>hR v' h2 tk2 hP' fun b o hw hn e=>hk2 b o hw hn (keep hk' b o hw hn e)⟩
    · refine wpAny_bind (wpAny_seqItems hS rfl ?_);show wpAny _ A.in1 (tryCatch (pyNext (.ref I)) _ >>= _) _ _ s;refine wpAny_bind (wpAny_tryCatch (W.item j s _ _ hlt hst fun v h' tk hP hst' hk'=>?_));have hS':=hk' S _ hSw hS;have ej:j=(j - 1)+1:=by omega
      have ab:argBest bt j=if bt j (argBest bt (j - 1)) then j else argBest bt (j - 1):=by
        conv=>lhs;rw [ej];unfold argBest
        rw [<- ej]
      show wpAny _ A.in1 (tryCatch (holding [v,v] (richCompare .Gt v vb >>= _)) _ >>= _) _ _ _;refine wpAny_bind (wpAny_tryCatch (wpAny_holding (wpAny_bind (hcmp j (argBest bt (j - 1)) v vb _ _ _ hP hvb ?_))));refine wpAny_bind (wpAny_holding (wpAny_truthy_bool ?_));refine wpAny_bind (wpAny_letGo (wpAny_pure ?_));cases hb:bt j (argBest bt (j - 1)) with
      | true =>
        simp only [if_true];refine wpAny_bind (wpAny_updateSeq hS' rfl (wpAny_bind (wpAny_letGo ?_)));rw [hname];exact wpAny_pure ⟨plainId_quiet F.plain_max_loop _,ih (j+1) _ (by omega) hlt (W.frame _ _ _ hst' fun b hbf o e=>(km _ _ (fun h:S=b=>hSf (h▸hbf))).trans e) ⟨_,.inr ⟨by omega,v,by rw [la,ab,hb];exact hP,lP _ hS' rfl⟩⟩ fun v' h2 tk2 hP' hk2=>hR v' h2 tk2 hP' fun b o hw hn e=>hk2 b o hw hn (keep hk' b o hw hn e)⟩
      | false =>
        simp only [jr,if_false];refine wpAny_bind (wpAny_letGo ?_);rw [hname];exact wpAny_pure ⟨plainId_quiet F.plain_max_loop _,ih (j+1) _ (by omega) hlt hst' ⟨c,.inr ⟨by omega,vb,by rw [la,ab,hb];exact hvb,hS'⟩⟩ fun v' h2 tk2 hP' hk2=>hR v' h2 tk2 hP' fun b o hw hn e=>hk2 b o hw hn (hk' b o hw e)⟩
end
section
variable {prog:Program} {w:World} {A:Around} {E:Value->Shared->Prop} {s:Shared}
theorem Pn {x d:Value} {Q:Value->Shared->Prop}
    (h:wpAny (model prog w) A.in1 (pyIter x) (fun it s₂=>∃ I fp wr n P St bt,it=.ref I/\Walks prog w A.in1 I fp wr n P St/\St 0 s₂.heap/\(∀ b∈fp,b < s₂.heap.objs.size)/\CmpOf prog w A.in1 .Gt P bt /\
      ∀ v h' tk,(n=0/\v=d\/0 < n/\P (argBest bt (n - 1)) v)->(∀ b o,b∉wr->s₂.heap.get? b=some o->h'.get? b=some o)->Q v { s₂ with heap:=h',toks:=tk }) E s) :
    wpAny (model prog w) A (call (.builtin "max") [x] (Uu d)) Q E s:=by
  have hname:(toString "max" ++ toString ".loop" : String) = "max.loop" := by decide
  refine Pp ?_
  show wpAny _ A.in1 (Builtin.Builtins.bindParams "max" ["key", "default"] 0 ⟨[],Uu d⟩ >>= _) _ _ s
  refine wpAny_bind (wpAny_of_eq (show Builtin.Builtins.bindParams "max" ["key", "default"] 0 ⟨[],Uu d⟩=pure [none,some d] from rfl) ?_)
  refine wpAny_bind (wpAny_pure ?_);refine wpAny_bind (wpAny_mono h (fun it s₂ h₂=>?_) fun _ _ e=>e);obtain ⟨I,fp,wr,n,P,St,bt,rfl,W,hst,hfp,hcmp,hQ⟩:=h₂;refine wpAny_bind (wpAny_newObj_type ?_);have hSf:s₂.heap.objs.size∉fp:=fun hm=>lC _ (hfp _ hm)
  rw [hname];refine wpAny_pure ⟨plainId_quiet F.plain_max_loop _,Pq W bt hcmp s₂.heap.objs.size hSf n 0 _ (by omega) (kg _) (W.frame _ _ _ hst fun b _ o e=>jm _ e) ⟨0,.inl ⟨rfl,kD _ rfl⟩⟩ fun v h' tk hP hk=>?_⟩;exact hQ v h' tk hP fun b o hbw e=>hk b o hbw (kP (kF e)) (jm _ e)
end
section
variable {prog:Program} {w:World} {A:Around} {E:Value->Shared->Prop} {s:Shared}
theorem Pu {l:Addr} {d:Value} {xs:Array (Int×Tok)} {Q:Value->Shared->Prop} (hh:A.handled=none) (hl:s.heap.IsList l (intItems xs))
    (h:∀ v h' tk,(xs.size=0/\v=d\/0 < xs.size/\(intItems xs)[argBest (fun i j=>decide (numAt xs i > numAt xs j)) (xs.size - 1)]?=some v)->(∀ b o,s.heap.get? b=some o->h'.get? b=some o)->Q v { s with heap:=h',toks:=tk }) :
    wpAny (model prog w) A (call (.builtin "max") [.ref l] (Uu d)) Q E s:=by
  refine Pn (iter_intList hl fun s₂ e st hfp hlI=>?_);subst e;refine ⟨_,_,_,_,_,_,_,rfl,Walks.list (A:=A.in1) hh _ l hlI (intItems xs),st,hfp,CmpOf.ints_gt (numAt xs) (fun _ _=>intItems_at),fun v h' tk hP hk=>?_⟩;exact h v h' tk (by simpa [intItems] using hP) (old_kept hk)
end
section
variable {X:Cx} {a e:Expr} {ta te:TE} {p pos kp:Pos}
def hU (K:W.Frag) (x y:V) (H:Hp) (Q:VK):Prop:=∃ (l:Addr) (ns:List Int) (d:Int),x=.ref l/\y=.int d/\CB K H l (ns.map V.int)/\∀ M,(ns=[]/\M=d\/M∈ns/\∀ a,a∈ns->a<=M)->Q (.int M) H
theorem Vv (hc:X.calm=true) (hg:Gl X "max") (hm:X.mg "max" = none) (ha:PE X a ta) (he:PE X e te) (hs:starEach [a] X.env=[(false,eval a X.env)]):PE X (.Call (.Name "max" p) [a] [⟨some "default", e,kp⟩] pos) (fun σ H Q=>ta σ H fun x H1=>te σ H1 fun y H2=>hU X.K x y H2 Q):=by
 intro pins s σ H Q I h;refine wpAny_Call_Name_kw (BZ I hg hm PyProof.Rows.Boot.«max» ?_);refine callWith_kw ?_ (by rw [hs];rfl) (by rw [hs];rfl);refine Ae (DB ha MT hs pos pins s σ H (fun vs H1=>te σ H1 fun y H2=>(match vs with | [x]=>hU X.K x y H2 Q | _=>False)) I h) fun us s1 ⟨vs,H1,I1,r1,q1⟩=>?_
 refine kws_cons (Ae (he pins s1 σ H1 _ I1 q1) fun u s2 ⟨y,H2,I2,r2,q2⟩=>kws_nil ?_);cases r1 with
 | nil=>exact q2.elim
 | cons rx r3 =>
  cases r3 with
  | cons _ _=>exact q2.elim
  | nil =>
   obtain ⟨l,ns,d,rfl,rfl,hp,q⟩:=q2;cases rx;obtain ⟨t,rfl⟩:=r2;obtain ⟨its,rv,pl,hz⟩:=I2.list hp;have hl:=pl.isList;have hi:=CO rv;obtain ⟨xs,e⟩:=hi.allInts.items;have hns:ns=xs.toList.map (·.1):=by
    rw [<- hi.numsOf,<- nums_intItems,<- e]
   have hsz:ns.length=xs.size:=by rw [hns,jv,Array.length_toList]
   rw [e] at hl
   show wpAny (model X.prog X.w) X.A (call (.builtin "max") [.ref l] (Uu (.int d t))) _ _ _
   refine Pu (I2.ok.hd hc) hl fun v h' tk hv hk=>?_
   obtain ⟨h0,rfl⟩ | ⟨h0,hv⟩:=hv
   ·exact ⟨.int _,H2,I2.kept hk,⟨t,rfl⟩,q _ (.inl ⟨List.length_eq_zero_iff.mp (hsz.trans h0),rfl⟩)⟩
   ·obtain ⟨t,rfl⟩:=intItems_at hv;obtain ⟨h1,h2⟩:=argBest_gt (numAt xs) (xs.size - 1);refine ⟨.int _,H2,I2.kept hk,⟨t,rfl⟩,q _ (.inr ⟨?_,fun a ha=>?_⟩)⟩
    ·rw [hns,numAt_eq];exact getD_mem (by rw [jv,Array.length_toList];omega)
    ·rw [hns] at ha;obtain ⟨j,hj,rfl⟩:=mem_getD ha;rw [jv,Array.length_toList] at hj;rw [<- numAt_eq];exact h2 j (by omega)
end
end L2
namespace R
open PySem L2
def Gx (X:Cx):Prop:=X.calm=true/\∃ j,Room j X.A
noncomputable def two {α:Type} (f:Dv->Dv->Option α) (ds:List Dv):Option α:=match ds with | [a,b]=>f a b | _=>none
noncomputable def one {α:Type} (f:Dv->Option α) (ds:List Dv):Option α:=match ds with | [a]=>f a | _=>none
noncomputable def Aq:Expr->Bool
 | .Starred _ _=>false
 | _=>true
structure BinE where
 op:Operator
 f:Dv->Dv->Option Dv
 ok:∀ X,Gx X->∃ r,CQ X (binaryOp op) r/\AG X.K (two f) 1 (Ht r)
structure CmpE where
 op:CmpOp
 f:Dv->Dv->Option Bool
 ok:∀ X,Gx X->∃ r,CQ X (compareOp op) r/\AG X.K (fun ds=>(two f ds).map .bl) 0 (Ht r)
structure CallE where
 x:Str
 n:Nat
 o:Nat
 f:List Dv->Option Dv
 ok:∀ X,Gx X->∃ r,AG X.K f o r/\((∃ id,BC X (.builtin id) r/\bootBuiltins x=some (.builtin id))\/∃ T,BC X (.type T) r/\bootBuiltins x=some (.type T))
abbrev jH (T:String):Prop:=T = "list" \/ T = "str" \/ T = "int" \/ T = "dict"
structure MethE where
 x:Str
 n:Nat
 T:String
 o:Nat
 f:List Dv->Option Dv
 hT:jH T\/T = "tuple" /\ n=1
 ok:∀ X,Gx X->∃ id r,PlainAttrs T/\Slot T x id/\typeOf (.builtin id)=pure (.type "method_descriptor")/\cM X id r/\AG X.K f o (cN r)
structure MutE where
 x:Str
 n:Nat
 T:String
 p:Mu
 hT:jH T
 ok:∀ X,Gx X->∃ id r,PlainAttrs T/\Slot T x id/\typeOf (.builtin id)=pure (.type "method_descriptor")/\cM X id r/\Qt X.K p r
noncomputable def JV:Expr->Bool
 | .Tuple _ _ _=>true
 | _=>false
structure SrcE where
 x:Str
 n:Nat
 tt:Bool
 f:List Dv->Option (List Dv)
 ok:∀ X,Gx X->∃ r,Qs X.K f r/\∀ tg es p pos ta,(tt=true->JV tg=true)->es.length=n->es.all Aq=true->Gl X x->X.mg x=none->PA X es ta->PI X tg (.Call (.Name x p) es [] pos) (YJ r ta)
def jY:Os:=fun vs H1 Q=>KD (fun _ H R=>R vs H) [] H1 Q
def jW:Os:=fun vs H1 Q=>Ng (fun _ H R=>R vs H) [] H1 Q
def jX (K:W.Frag):R2:=fun x y H2 Q=>∃ a xs b,x=.ref a/\y=.int (-1)/\Uo K H2 a xs b/\∀ p,H2 p=none->Q (.ref p) (upd H2 p (bif b then .tup xs.reverse else .lst xs.reverse))
def jE (K:W.Frag):V->Hp->VK->Prop:=fun v H1 Q=>∃ a xs,v=.ref a/\CB K H1 a xs/\∀ l,H1 l=none->Q (.ref l) (upd H1 l (.lst xs.reverse))
structure Tb where
 bins:List BinE
 cmps:List CmpE
 calls:List CallE
 meths:List MethE
 muts:List MutE
 srcs:List SrcE
 ix:Dv->Dv->Option Dv
 ixok:∀ X,Gx X->∃ r,Qu X r/\AG X.K (two ix) 0 (Ht r)
 sl:Dv->Option Int->Option Int->Option Dv
 slok:∀ X,Gx X->∃ r,Qz X r/\∀ lo hi,AG X.K (one fun d=>sl d lo hi) 1 (cb fun x H Q=>r x lo hi H Q)
 tru:Dv->Option Bool
 trok:∀ K g H o d v P b,Rep K g H o d v P->tru d=some b->Um K v H b
 lr:List Dv->Option Dv
 lrok:∀ X,Gx X->AG X.K lr 1 jY
 tr:List Dv->Option Dv
 trrok:∀ X,Gx X->AG X.K tr 1 jW
 md:Dv->Dv->Option Dv
 mdok:∀ X,Gx X->AG X.K (two md) 1 (Ht (hU X.K))
 rv:Dv->Dv->Option Dv
 rvok:∀ X,Gx X->AG X.K (two rv) 1 (Ht (jX X.K))
 lv:Dv->Option Dv
 lvok:∀ X,Gx X->AG X.K (one lv) 1 (cb (jE X.K))
 st:Dv->Dv->Dv->Option Dv
 stok:∀ X,Gx X->∃ T,Jw X T/\Up X.K st T
structure Cf:Type 1 where
 N:List Str
 sc:Scope
 fn:Str->Bool
 fs:List (Str×Sig)
 cs:List (Str×Dv)
 bl:List Str
 T:Tb
 F:Fr
structure Cok (C:Cf) (X:Cx):Prop where
 N:X.N=C.N
 sc:X.env.scope=C.sc
 nd:X.N.Nodup
 calm:X.calm=true
 fn:∀ x,C.fn x=true->X.fn x=true
 room:Gx X
 fs:∀ x s,(x,s)∈C.fs->s.io.Nodup/\(∀ i∈s.io,i < s.ps.length)/\∃ j k,j<=k/\Room k X.A/\Fx X.prog X.w X.K X.mg X.base j x s.ps (Nm X.K s)
 cs:∀ x d,(x,d)∈C.cs->∃ v u,X.mg x=some u/\RelV v u/\∀ g H,Rep X.K g H 0 d v nop
 bl:∀ x∈C.bl,X.mg x=none
 xe:X.xe=fun _ _=>False
noncomputable def Cu:List Str->Str->Option Nat
 | [],_=>none
 | y::r,x=>if y == x then some 0 else (Cu r x).map (·+1)
theorem Bg:∀ {N:List Str} {x:Str} {i:Nat},Cu N x=some i->N[i]?=some x
 | [],_,_,h=>by cases h
 | y::r,x,i,h=>by
  unfold Cu at h;split at h
  ·rename_i e;cases h;rw [beq_iff_eq.mp e];rfl
  ·cases q:Cu r x with
   | none=>rw [q] at h;cases h
   | some j=>rw [q] at h;cases h;simpa using Bg q
noncomputable def Sw (sc:Scope) (x:Str):Bool:=match sc.names.lookup x with
 | some .local=>true
 | some .cell=>true
 | some .free=>true
 | _=>false
noncomputable def GD (sc:Scope) (x:Str):Bool:=match sc.names.lookup x with
 | some .globalImplicit=>true
 | _=>false
noncomputable def Qx (x:Str):Bool:=!(x == ("__debug__" : Str)) && !(x == ("__classdict__" : Str)) && !(x == ("__name__" : Str))
def lv (C:Cf) (x:Str):Option Nat:=if Sw C.sc x && Qx x then Cu C.N x else none
def Sk (C:Cf) (e:Expr):Option Nat:=match e with
 | .Name x _=>lv C x
 | _=>none
theorem Bu {x:Str} (h:Qx x=true):(x == ("__debug__" : Str))=false/\(x == ("__classdict__" : Str))=false/\x ≠ "__name__" := by
 unfold Qx at h;simp only [jh,lD] at h;exact ⟨h.1.1,h.1.2,fun z=>by rw [z] at h;simp at h⟩
theorem QJ {sc:Scope} {x:Str} (h:Sw sc x=true):gK sc x:=by
 unfold Sw at h;unfold gK;split at h
 ·rename_i e;exact .inl e
 ·rename_i e;exact .inr (.inl e)
 ·rename_i e;exact .inr (.inr e)
 ·cases h
theorem BN {X:Cx} {C:Cf} (ok:Cok C X) {x:Str} (h:GD C.sc x=true):Gl X x:=by
 unfold GD at h;unfold Gl Env.kindOf;rw [ok.sc];split at h
 ·rename_i e;exact e
 ·cases h
theorem YH {X:Cx} {C:Cf} (ok:Cok C X) {x:Str} {i:Nat} {pos:Pos} (h:lv C x=some i):PE X (.Name x pos) (FB i):=by
 unfold lv at h;split at h
 ·rename_i e;rw [jh] at e;have n:=Bu e.2;exact Zu (by rw [ok.N];exact Bg h) (by rw [ok.sc];exact QJ e.1) n.1 n.2.1
 ·cases h
theorem Cb {X:Cx} {C:Cf} (ok:Cok C X) {e:Expr} {i:Nat} (h:Sk C e=some i):PE X e (FB i):=by
 cases e with
 | Name x pos=>exact YH ok h
 | _=>cases h
structure CE:Type 1 where
 o:Nat
 Γ:Gm
 js:List Nat
 f:Ev Dv
structure CT:Type 1 where
 Γ:Gm
 js:List Nat
 f:Ev Bool
structure CA:Type 1 where
 as:List Ar
 Γ:Gm
 js:List Nat
structure CI:Type 1 where
 Γ:Gm
 js:List Nat
 f:Ev (List Dv)
structure CS:Type 1 where
 Γ:Option Gm
 js:List Nat
 f:Es
 er:Bool
 eb:Bool
 ec:Bool
structure Rec:Type 1 where
 E:Cf->Gm->Expr->Option CE
 A:Cf->Gm->List Bool->List Expr->Option CA
 T:Cf->Gm->Expr->Option CT
 I:Cf->Gm->Bool->Expr->Option CI
 S:Cf->Option Gm->Gm->Stmt->Option CS
 Ss:Cf->Option Gm->Gm->List Stmt->Option CS
abbrev RW (t:TA) (te:TE):TA:=fun σ H Q=>t σ H fun vs H1=>te σ H1 fun x H2=>Q (vs++[x]) H2
structure OkR (r:Rec):Prop where
 E:∀ {C X Γ e c},Cok C X->r.E C Γ e=some c->PE X e (tE X.K Γ c.o c.Γ c.js c.f)
 A:∀ {C X Γ md es c},Cok C X->r.A C Γ md es=some c->PA X es (BP X.K c.as)/\AA Γ c.as c.Γ c.js/\c.as.length=es.length/\es.all Aq=true/\(md=[]->evd c.as=true)
 T:∀ {C X Γ e c},Cok C X->r.T C Γ e=some c->PT X e (tT X.K Γ c.Γ c.js c.f)
 I:∀ {C X Γ e c} (tg),Cok C X->r.I C Γ (JV tg) e=some c->PI X tg e (tI X.K Γ c.Γ c.js c.f)
 S:∀ {C X Γl Γ s c},Cok C X->r.S C Γl Γ s=some c->PS X s (tS X.K C.F Γl Γ c.Γ c.js c.f)
 Ss:∀ {C X Γl Γ s c},Cok C X->r.Ss C Γl Γ s=some c->DM X s (tS X.K C.F Γl Γ c.Γ c.js c.f)
 B:∀ {C X Γ md es c},Cok C X->r.A C Γ md es=some c->∀ {e te},PE X e te->Aq e=true->PA X (es++[e]) (RW (BP X.K c.as) te)
def cR (Γ:Gm) (i:Nat):Bool:=match Γ.getD i none with
 | some o=>decide (o<=1)
 | none=>false
theorem Gz {Γ:Gm} {i:Nat} (h:cR Γ i=true):∃ o,o<=1/\Γ[i]?=some (some o):=by
 unfold cR at h;split at h
 ·rename_i o e;exact ⟨o,of_decide_eq_true h,Az e⟩
 ·cases h
def KG (r:Rec) (C:Cf) (Γ:Gm) (md:List Bool) (es:List Expr):Option CA:=match es with
  | []=>some ⟨[],Γ,[]⟩
  | e::es=>if Aq e then
      match (if md.headD false then Sk C e else none) with
      | some i=>if (Γ.getD i none).isSome then (r.A C Γ md.tail es).bind fun c=>if cR c.Γ i then some ⟨.rf i::c.as,c.Γ,c.js⟩ else none else none
      | none=>(r.E C Γ e).bind fun c1=>(r.A C c1.Γ md.tail es).bind fun c=>some ⟨.ev Γ c1.Γ c1.js c1.f::c.as,c.Γ,c1.js++c.js⟩
    else none
theorem AF {e:Expr} {es:List Expr} {env:Env} (h:Aq e=true):starEach (e::es) env=(false,eval e env)::starEach es env:=by
 cases e<;>first | rfl | (cases h)
theorem getD_some {Γ:Gm} {i:Nat} (h:(Γ.getD i none).isSome=true):∃ o,Γ[i]?=some (some o):=by
 obtain ⟨o,e⟩:=lX.mp h;exact ⟨o,Az e⟩
theorem PH {r:Rec} (R:OkR r) {C:Cf} {X:Cx} {Γ:Gm} {md:List Bool} {es:List Expr} {c:CA} (ok:Cok C X) (h:KG r C Γ md es=some c) {e0:Expr} {te:TE} (h0:PE X e0 te) (hn0:Aq e0=true):PA X (es++[e0]) (RW (BP X.K c.as) te):=by
  cases es with
  | nil=>cases h;exact DB h0 MT (AF hn0)
  | cons e es =>
    unfold KG at h;simp only at h;split at h
    · rename_i hs;have hst:=AF (es:=es++[e0]) (env:=X.env) hs;split at h
      · rename_i i hi;have hmd:md.headD false=true:=by
          cases q:md.headD false with
          | true=>rfl
          | false=>rw [q] at hi;cases hi
        rw [hmd] at hi;split at h
        · obtain ⟨c2,e2,h⟩:=bind_some' h;split at h
          · cases h;exact DB (Cb ok hi) (R.B ok e2 h0 hn0) hst
          · cases h
        · cases h
      · obtain ⟨c1,e1,h⟩:=bind_some' h;obtain ⟨c2,e2,h⟩:=bind_some' h;cases h;exact DB (DA (R.E ok e1)) (R.B ok e2 h0 hn0) hst
    · cases h
theorem Rl {r:Rec} (R:OkR r) {C:Cf} {X:Cx} {Γ:Gm} {md:List Bool} {es:List Expr} {c:CA} (ok:Cok C X) (h:KG r C Γ md es=some c):PA X es (BP X.K c.as)/\AA Γ c.as c.Γ c.js/\c.as.length=es.length/\es.all Aq=true/\(md=[]->evd c.as=true):=by
  cases es with
  | nil=>cases h;exact ⟨MT,by unfold AA;exact ⟨rfl,rfl⟩,rfl,rfl,fun _=>rfl⟩
  | cons e es =>
    unfold KG at h;simp only at h;split at h
    · rename_i hs;have hst:=AF (es:=es) (env:=X.env) hs;split at h
      · rename_i i hi;have hmd:md.headD false=true:=by
          cases q:md.headD false with
          | true=>rfl
          | false=>rw [q] at hi;cases hi
        rw [hmd] at hi;split at h
        · rename_i h1;obtain ⟨c2,e2,h⟩:=bind_some' h;split at h
          · rename_i h2;cases h;obtain ⟨a1,a2,a3,a4,a5⟩:=R.A ok e2;refine ⟨DB (Cb ok hi) a1 hst,?_,by simp [a3],by simp [hs,a4],fun z=>by rw [z] at hmd;cases hmd⟩;unfold AA;exact ⟨getD_some h1,Gz h2,a2⟩
          · cases h
        · cases h
      · obtain ⟨c1,e1,h⟩:=bind_some' h;obtain ⟨c2,e2,h⟩:=bind_some' h;cases h;obtain ⟨a1,a2,a3,a4,a5⟩:=R.A ok e2;refine ⟨DB (DA (R.E ok e1)) a1 hst,?_,by simp [a3],by simp [hs,a4],fun z=>?_⟩
        · unfold AA;exact ⟨rfl,_,rfl,a2⟩
        · show evd c2.as=true;exact a5 (by rw [z];rfl)
    · cases h
def UP (Γ:Gm):Const->Option CE
 | .int i=>some ⟨1,Γ,[],LF (.int i)⟩
 | .bool b=>some ⟨1,Γ,[],LF (.bl b)⟩
 | .none=>some ⟨1,Γ,[],LF .non⟩
 | .str x=>some ⟨1,Γ,[],LF (.str x.cps.toList)⟩
 | _=>none
theorem Yu (x:Str):tx x.cps.toList=x:=by
 unfold tx;cases x;rfl
theorem Qi {X:Cx} {Γ:Gm} {k:Const} {c:CE} {j:Nat} {pos:Pos} (h:UP Γ k=some c):PE X (.Constant k j pos) (tE X.K Γ c.o c.Γ c.js c.f):=by
 cases k with
 | int i=>cases h;exact cQ aB fun _ _=>BG
 | bool b=>cases h;exact cQ eU fun _ _=>CM
 | none=>cases h;exact cQ Zz fun _ _=>FT
 | str x=>cases h;exact cQ Zw fun _ _=>by unfold Rep;exact ⟨by rw [Yu],fun _ z=>z⟩
 | _=>cases h
noncomputable def VB (x:Str):Option String:=if x == ("int" : Str) then some "int" else if x == ("bool" : Str) then some "bool" else if x == ("str" : Str) then some "str" else if x == ("tuple" : Str) then some "tuple" else if x == ("list" : Str) then some "list" else none
theorem Ox {x:Str} {T:String} (h:VB x=some T):bootBuiltins x=some (.type T):=by
 unfold VB at h
 repeat' split at h
 all_goals first | (rename_i e;rw [beq_iff_eq.mp e];cases h;first | exact PyProof.Rows.Boot.«int» | exact PyProof.Rows.Boot.«bool» | exact PyProof.Rows.Boot.«str» | exact PyProof.Rows.Boot.«tuple» | exact PyProof.Rows.Boot.«list») | cases h
def UO (C:Cf) (Γ:Gm) (x:Str):Option CE:=match lv C x with
  | some i=>if (Γ.getD i none).isSome then some ⟨0,Γ.set i (some 0),[],OP i⟩ else none
  | none=>if GD C.sc x && Qx x then (match C.cs.find? fun p=>p.1 == x with
      | some p=>some ⟨0,Γ,[],LF p.2⟩
      | none=>if C.bl.contains x then (VB x).map fun T=>⟨0,Γ,[],LF (.ty T)⟩ else none) else none
theorem UN {C:Cf} {X:Cx} {Γ:Gm} {x:Str} {c:CE} {pos:Pos} (ok:Cok C X) (h:UO C Γ x=some c):PE X (.Name x pos) (tE X.K Γ c.o c.Γ c.js c.f):=by
 unfold UO at h;split at h
 ·rename_i i hi;split at h
  ·rename_i h1;cases h;obtain ⟨o,ho⟩:=getD_some h1;exact dX (YH ok hi) ho
  ·cases h
 ·split at h
  ·rename_i hg;rw [jh] at hg;cases q:C.cs.find? fun p=>p.1 == x with
   | none =>
    rw [q] at h;simp only at h;split at h
    ·rename_i hb;cases t:VB x with
     | none=>rw [t] at h;cases h
     | some T =>
      rw [t] at h;cases h;exact cQ (Vz (v:=.ty T) (BN ok hg.1) (ok.bl x (jy.mp hb)) (Ox t) rfl (Bu hg.2).2.2 (Bu hg.2).1) fun _ _=>by unfold Rep;exact ⟨rfl,fun _ z=>z⟩
    ·cases h
   | some p =>
    rw [q] at h;cases h;have e:p.1=x:=beq_iff_eq.mp (by simpa using kz q);obtain ⟨v,u,h1,h3,h2⟩:=ok.cs p.1 p.2 (mw q);rw [e] at h1;exact cQ (Vw (BN ok hg.1) h1 h3 (Bu hg.2).1) h2
  ·cases h
structure C1:Type 1 where
 a:Ar
 Γ:Gm
 js:List Nat
def Dd (r:Rec) (C:Cf) (Γ:Gm) (m:Bool) (e:Expr):Option C1:=match (if m then Sk C e else none) with
 | some i=>if (Γ.getD i none).isSome then some ⟨.rf i,Γ,[]⟩ else none
 | none=>(r.E C Γ e).bind fun c=>some ⟨.ev Γ c.Γ c.js c.f,c.Γ,c.js⟩
def DI (a:Ar) (Γ:Gm):Bool:=match a with
 | .rf i=>cR Γ i
 | _=>true
theorem Bc {r:Rec} (R:OkR r) {C:Cf} {X:Cx} {Γ:Gm} {m:Bool} {e:Expr} {c:C1} (ok:Cok C X) (h:Dd r C Γ m e=some c):PE X e (FD X.K c.a)/\(m=false->evd [c.a]=true)/\∀ {as Γ' js},AA c.Γ as Γ' js->DI c.a Γ'=true->AA Γ (c.a::as) Γ' (c.js++js):=by
 unfold Dd at h;split at h
 ·rename_i i hi;split at h
  ·rename_i h1;cases h;have hm:m=true:=by cases m with | true=>rfl | false=>cases hi
   subst hm;refine ⟨Cb ok hi,(fun z=>by cases z),fun ch hs=>?_⟩;unfold AA;exact ⟨getD_some h1,Gz hs,ch⟩
  ·cases h
 ·obtain ⟨c1,e1,h⟩:=bind_some' h;cases h;refine ⟨DA (R.E ok e1),fun _=>rfl,fun ch hs=>?_⟩;unfold AA;exact ⟨rfl,_,rfl,ch⟩
theorem BH {Γ:Gm}:AA Γ [] Γ []:=by unfold AA;exact ⟨rfl,rfl⟩
def HR (r:Rec) (C:Cf) (Γ:Gm) (a b:Expr):Option (C1×C1):=(Dd r C Γ true a).bind fun x=>(Dd r C x.Γ true b).bind fun y=>if DI x.a y.Γ && DI y.a y.Γ then some (x,y) else none
noncomputable def jj (p:C1×C1):List Nat:=p.1.js++(p.2.js++[])
theorem Dc {r:Rec} (R:OkR r) {C:Cf} {X:Cx} {Γ:Gm} {a b:Expr} {p:C1×C1} (ok:Cok C X) (h:HR r C Γ a b=some p):PE X a (FD X.K p.1.a)/\PE X b (FD X.K p.2.a)/\AA Γ [p.1.a,p.2.a] p.2.Γ (jj p):=by
 unfold HR at h;obtain ⟨x,e1,h⟩:=bind_some' h;obtain ⟨y,e2,h⟩:=bind_some' h;split at h
 ·rename_i z;rw [jh] at z;cases h;obtain ⟨a1,_,a2⟩:=Bc R ok e1;obtain ⟨b1,_,b2⟩:=Bc R ok e2;exact ⟨a1,b1,a2 (b2 BH z.2) z.1⟩
 ·cases h
def Lg (r:Rec) (C:Cf) (Γ:Gm) (a:Expr):Option C1:=(Dd r C Γ true a).bind fun x=>if DI x.a x.Γ then some x else none
theorem Dw {r:Rec} (R:OkR r) {C:Cf} {X:Cx} {Γ:Gm} {a:Expr} {x:C1} (ok:Cok C X) (h:Lg r C Γ a=some x):PE X a (FD X.K x.a)/\AA Γ [x.a] x.Γ (x.js++[]):=by
 unfold Lg at h;obtain ⟨y,e1,h⟩:=bind_some' h;split at h
 ·rename_i z;cases h;obtain ⟨a1,_,a2⟩:=Bc R ok e1;exact ⟨a1,a2 BH z⟩
 ·cases h
theorem Cok.gx {C:Cf} {X:Cx} (ok:Cok C X):Gx X:=ok.room
def gC (r:Rec) (C:Cf) (Γ:Gm) (a:Expr) (op:Operator) (b:Expr):Option CE:=(C.T.bins.find? fun e=>e.op == op).bind fun en=>(HR r C Γ a b).bind fun p=>some ⟨1,p.2.Γ,jj p,Cc (two en.f) (AK [p.1.a,p.2.a])⟩
theorem XM {r:Rec} (R:OkR r) {C:Cf} {X:Cx} {Γ:Gm} {a b:Expr} {op:Operator} {pos:Pos} {c:CE} (ok:Cok C X) (h:gC r C Γ a op b=some c):PE X (.BinOp a op b pos) (tE X.K Γ c.o c.Γ c.js c.f):=by
 obtain ⟨en,e1,h⟩:=bind_some' h;obtain ⟨p,e2,h⟩:=bind_some' h;cases h;have eo:en.op=op:=by simpa using kz e1
 obtain ⟨h1,h2,h3⟩:=Dc R ok e2;obtain ⟨rr,q1,q2⟩:=en.ok X ok.gx;rw [eo] at q1;exact PE.imp (eR q1 h1 h2) fun _ _ _ h=>BK q2 h3 h
noncomputable def HV (x:Dv):Option Dv:=match x with | .int i=>some (.int (-i)) | _=>none
theorem Zj {K:W.Frag}:AG K (one HV) 1 (cb (rU fun i=>.int (-i))):=fun g H ds vs d Q zd ra e k=>by
 unfold one at e;split at e
 ·rename_i a;unfold HV at e;split at e
  ·rename_i i;cases e;unfold RA at ra;obtain ⟨v,r,o,P,rfl,_,h1,h2⟩:=ra;unfold RA at h2;subst h2;rw [rep_int h1];exact ⟨i,rfl,k _ H (AW.old BG)⟩
  ·cases e
 ·cases e
def fu (r:Rec) (C:Cf) (Γ:Gm) (a:Expr):Option CE:=(Lg r C Γ a).bind fun x=>some ⟨1,x.Γ,x.js++[],Cc (one HV) (AK [x.a])⟩
theorem XC {r:Rec} (R:OkR r) {C:Cf} {X:Cx} {Γ:Gm} {a:Expr} {pos:Pos} {c:CE} (ok:Cok C X) (h:fu r C Γ a=some c):PE X (.UnaryOp .USub a pos) (tE X.K Γ c.o c.Γ c.js c.f):=by
 obtain ⟨x,e1,h⟩:=bind_some' h;cases h;obtain ⟨h1,h2⟩:=Dw R ok e1;exact PE.imp (eO Yr h1) fun _ _ _ h=>BK Zj h2 h
def cS (t:CT):CE:=⟨1,t.Γ,t.js,Mn t.f⟩
def NH (r:Rec) (C:Cf) (Γ:Gm) (a:Expr) (op:CmpOp) (b:Expr):Option CT:=if behindInMarks op b then none else (C.T.cmps.find? fun e=>e.op == op).bind fun en=>(HR r C Γ a b).bind fun p=>some ⟨p.2.Γ,jj p,YX (two en.f) (AK [p.1.a,p.2.a])⟩
theorem bz {K:W.Frag} {Γ Γ':Gm} {js:List Nat} {σ:St} {H:Hp} {o:Nat} {p:List Dv->Option Bool} {as:List Ar} {r:Os} (hp:AG K (fun ds=>(p ds).map .bl) 0 r) (c:AA Γ as Γ' js) {Q:VK} (h:tE K Γ o Γ' js (Mn (YX p (AK as))) σ H Q):BP K as σ H fun vs H1=>r vs H1 Q:=by
 obtain ⟨g,m,P,rl,R',k,res,e,q⟩:=h;refine AI as rl c e fun ds m' g' P' vs H1 hk ag s ar r1=>?_
 obtain ⟨b,e1,e2⟩:=bind_some' hk;refine hp g' H1 ds vs (.bl b) _ r1.zd (ar.ra r1) (by show (p ds).map _=_;rw [e1];rfl) fun v H2 nw=>?_
 obtain ⟨Pv,s2,h1,r2,n2⟩:=AW.go s r1 nw;have ev:=rep_bl h1;subst ev;exact q (.bl b) m' g' P' nop _ H2 e2 ag (s2.less fun _ z=>z.elim .inl False.elim) CM r2 fun _ _ z=>z
theorem Oh {r:Rec} (R:OkR r) {C:Cf} {X:Cx} {Γ:Gm} {a b:Expr} {op:CmpOp} {pos:Pos} {c:CT} (ok:Cok C X) (h:NH r C Γ a op b=some c):PT X (.Compare a [op] [b] pos) (tT X.K Γ c.Γ c.js c.f)/\∀ o,PE X (.Compare a [op] [b] pos) (tE X.K Γ o c.Γ c.js (Mn c.f)):=by
 unfold NH at h;split at h
 ·cases h
 ·rename_i hm;rw [mn] at hm;obtain ⟨en,e1,h⟩:=bind_some' h;obtain ⟨p,e2,h⟩:=bind_some' h;cases h;have eo:en.op=op:=by simpa using kz e1
  obtain ⟨h1,h2,h3⟩:=Dc R ok e2;obtain ⟨rr,q1,q2⟩:=en.ok X ok.gx;rw [eo] at q1;exact ⟨PT.imp (Ve q1 h1 h2 hm) fun _ _ _ h=>gG q2 h3 h,fun o=>PE.imp (Vx q1 h1 h2 hm) fun _ _ _ h=>bz q2 h3 h⟩
noncomputable def Ej:Expr->Bool
 | .Slice _ _ _ _=>false
 | _=>true
theorem SU {b:Expr} (h:Ej b=true):Ot b:=fun o i=>by
 cases b<;>first | rfl | (cases h)
def iU (r:Rec) (C:Cf) (Γ:Gm) (a b:Expr):Option CE:=(HR r C Γ a b).bind fun p=>some ⟨0,p.2.Γ,jj p,Cc (two C.T.ix) (AK [p.1.a,p.2.a])⟩
theorem bj {r:Rec} (R:OkR r) {C:Cf} {X:Cx} {Γ:Gm} {a b:Expr} {pos:Pos} {c:CE} (ok:Cok C X) (hb:Ej b=true) (h:iU r C Γ a b=some c):PE X (.Subscript a b pos) (tE X.K Γ c.o c.Γ c.js c.f):=by
 obtain ⟨p,e2,h⟩:=bind_some' h;cases h;obtain ⟨h1,h2,h3⟩:=Dc R ok e2;obtain ⟨rr,q1,q2⟩:=C.T.ixok X ok.gx;exact PE.imp (eS q1 h1 h2 (SU hb)) fun _ _ _ h=>BK q2 h3 h
noncomputable def Xb {R:Type} (d:Dv) (k:Int->Option R):Option R:=match d with | .int i=>k i | _=>none
def cE (o:Option (Ev Dv)):Ev (Option Int):=match o with
 | none=>fun _ m k=>k none m
 | some f=>fun R m k=>f R m fun d m1=>Xb d fun i=>k (some i) m1
def fS (p:Dv->Option Int->Option Int->Option Dv) (a:Ar) (lo hi:Option (Ev Dv)):Ev Dv:=match a with
 | .rf i=>fun R m k=>cE lo R m fun l m1=>cE hi R m1 fun u m2=>(p (m2.at i) l u).bind fun d=>k d m2
 | .ev _ _ _ f=>fun R m k=>f R m fun x m1=>cE lo R m1 fun l m2=>cE hi R m2 fun u m3=>(p x l u).bind fun d=>k d m3
def iW (r:Rec) (C:Cf) (Γ:Gm) (o:Option Expr):Option (Option (Ev Dv)×Gm×List Nat):=match o with
 | none=>some (none,Γ,[])
 | some e=>(r.E C Γ e).bind fun c=>some (some c.f,c.Γ,c.js)
def Xp (K:W.Frag) (Γ Γ':Gm) (js:List Nat) (f:Ev (Option Int)):TO:=fun σ H Q=>∃ g m P,Rel K g H Γ m σ P/\∃ (R:Type) (k:Option Int->M->Option R) (r:R),f R m k=some r /\
 ∀ b m' g' P' H',k b m'=some r->Bd js m m'->Step g P H g' P' H'->Rel K g' H' Γ' m' σ P'->Q b H'
theorem PO.imp {X:Cx} {e:Option Expr} {t t':TO} (h:PO X e t) (k:∀ σ H Q,t' σ H Q->t σ H Q):PO X e t':=fun pins s σ H Q I q=>h pins s σ H Q I (k σ H Q q)
theorem UR {r:Rec} (R:OkR r) {C:Cf} {X:Cx} {Γ:Gm} {e:Option Expr} {p:Option (Ev Dv)×Gm×List Nat} (ok:Cok C X) (h:iW r C Γ e=some p):PO X e (Xp X.K Γ p.2.1 p.2.2 (cE p.1)):=by
 cases e with
 | none =>
  cases h;exact PO.imp Vq fun σ H Q q=>by
   obtain ⟨g,m,P,r,R,k,res,e,q⟩:=q;exact q none m g P H e Bd.refl Step.refl r
 | some e =>
  obtain ⟨c,e1,h⟩:=bind_some' h;cases h;exact PO.imp (Vp (DA (R.E ok e1))) fun σ H Q q=>by
   obtain ⟨g,m,P,r,R,k,res,e,q⟩:=q;refine ⟨g,m,P,r,R,_,res,e,fun d m' g' P' Pv v H' hk ag s rv r1 n=>?_⟩;cases d<;>first | (cases hk;done) | skip
   rename_i i;exact ⟨i,rep_int rv,q (some i) m' g' P' H' hk ag (s.less fun _ z=>.inl z) r1⟩
def jM (r:Rec) (C:Cf) (Γ:Gm) (a:Expr) (lo hi:Option Expr):Option CE:=(Dd r C Γ true a).bind fun x=>(iW r C x.Γ lo).bind fun l=>(iW r C l.2.1 hi).bind fun u=>if DI x.a u.2.1 then some ⟨1,u.2.1,x.js++(l.2.2++u.2.2),fS C.T.sl x.a l.1 u.1⟩ else none
theorem ZL {K:W.Frag} {Γ Γ1 Γ2 Γ':Gm} {j1 j2 j3:List Nat} {p:Dv->Option Int->Option Int->Option Dv} {rr:V->Option Int->Option Int->Hp->VK->Prop} (hp:∀ lo hi,AG K (one fun d=>p d lo hi) 1 (cb fun x H Q=>rr x lo hi H Q)) {a:Ar} {lo hi:Option (Ev Dv)}
    (ha:∀ {as Γ' js},AA Γ1 as Γ' js->DI a Γ'=true->AA Γ (a::as) Γ' (j1++js)) (hs:DI a Γ'=true) {σ:St} {H:Hp} {Q:VK}
    (h:tE K Γ 1 Γ' (j1++(j2++j3)) (fS p a lo hi) σ H Q):jA rr (FD K a) (Xp K Γ1 Γ2 j2 (cE lo)) (Xp K Γ2 Γ' j3 (cE hi)) σ H Q:=by
  obtain ⟨g,m,P,r,R,k,res,e,q⟩:=h;have fin:∀ {x:Dv} {l u:Option Int} {m3:M} {g3:G} {P3:Fp} {H3:Hp} {v:V} {o:Nat} {Px:Fp},(p x l u).bind (fun d=>k d m3)=some res->Bd (j1++(j2++j3)) m m3->Step g P H g3 P3 H3->Rel K g3 H3 Γ' m3 σ P3->o<=1->Rep K g3 H3 o x v Px->rr v l u H3 Q:=fun {x l u m3 g3 P3 H3 v o Px} hk ag s r3 hlo rx=>by
    obtain ⟨d,e1,e2⟩:=bind_some' hk;refine hp l u g3 H3 [x] [v] d Q r3.zd (by unfold RA;exact ⟨v,[],o,Px,rfl,hlo,rx,by unfold RA;rfl⟩) e1 fun w H4 nw=>?_
    obtain ⟨Pv,s2,h1,r2,n2⟩:=AW.go s r3 nw;exact q d m3 g3 P3 Pv w H4 e2 ag s2 h1 r2 n2
  cases a with
  | rf i =>
    have c0:=ha (as:=[]) (Γ':=Γ1) (js:=[]) BH;have hs':=hs
    -- the slot is set ahead
    have h0:(∃ o,Γ[i]?=some (some o))/\Γ1=Γ/\j1=[]:=by
      have:=ha (as:=[.ev Γ1 Γ' (j2++j3) (fun _ m k=>k .non m)]) (Γ':=Γ') (js:=(j2++j3)++[]) (by unfold AA;exact ⟨rfl,[],rfl,BH⟩) hs;unfold AA at this;refine ⟨this.1,?_⟩;obtain ⟨_,_,c⟩:=this;unfold AA at c;refine ⟨c.1,?_⟩;obtain ⟨_,js2,e,c⟩:=c;unfold AA at c;rw [c.2] at e;have l:(j1++((j2++j3)++[])).length=((j2++j3)++[]).length:=congrArg List.length e;simp at l;exact l
    obtain ⟨⟨o0,h0⟩,rfl,rfl⟩:=h0;obtain ⟨v0,P0,ev0,rv0,_⟩:=r.see h0;refine ⟨v0,ev0,g,m,P,r,R,_,res,e,fun l m1 g1 P1 H1 hk1 ag1 s1 r1=>⟨g1,m1,P1,r1,R,_,res,hk1,fun u m2 g2 P2 H2 hk2 ag2 s2 r2=>?_⟩⟩;obtain ⟨o1,hl1,h1⟩:=Gz hs;obtain ⟨v1,Px,ev1,rv1,_⟩:=r2.see h1;rw [ev0] at ev1;cases ev1;exact fin hk2 (ag1.trans ag2) (s1.trans s2) r2 hl1 rv1
  | ev Γa Γb ja f =>
    have h0:Γa=Γ/\Γb=Γ1/\j1=ja:=by
      have:=ha (as:=[.ev Γ1 Γ1 [] (fun _ m k=>k .non m)]) (Γ':=Γ1) (js:=[]) (by unfold AA;exact ⟨rfl,[],rfl,BH⟩) rfl;unfold AA at this;obtain ⟨e1,js2,e2,c⟩:=this;unfold AA at c;obtain ⟨e3,js3,e4,c⟩:=c;unfold AA at c;rw [c.2] at e4;subst e4;simp at e2;exact ⟨e1,e3.symm,e2⟩
    obtain ⟨rfl,rfl,rfl⟩:=h0;refine ⟨g,m,P,r,R,_,res,e,fun x m1 g1 P1 Pv v H1 hk1 ag1 s1 rv r1 n1=>⟨g1,m1,P1,r1,R,_,res,hk1,fun l m2 g2 P2 H2 hk2 ag2 s2 r2=>⟨g2,m2,P2,r2,R,_,res,hk2,fun u m3 g3 P3 H3 hk3 ag3 s3 r3=>?_⟩⟩⟩;exact fin hk3 (ag1.trans (ag2.trans ag3)) (((s1.less fun _ z=>.inl z).trans s2).trans s3) r3 (by decide:0<=1) ((rv.z.held s2 r1.fpOk fun _ z=>z.elim).held s3 r2.fpOk fun _ z=>z.elim)
theorem bW {r:Rec} (R:OkR r) {C:Cf} {X:Cx} {Γ:Gm} {a:Expr} {lo hi:Option Expr} {p2 pos:Pos} {c:CE} (ok:Cok C X) (h:jM r C Γ a lo hi=some c):PE X (.Subscript a (.Slice lo hi none p2) pos) (tE X.K Γ c.o c.Γ c.js c.f):=by
 obtain ⟨x,e1,h⟩:=bind_some' h;obtain ⟨l,e2,h⟩:=bind_some' h;obtain ⟨u,e3,h⟩:=bind_some' h;split at h
 ·rename_i hs;cases h;obtain ⟨h1,_,h2⟩:=Bc R ok e1;obtain ⟨rr,q1,q2⟩:=C.T.slok X ok.gx;exact PE.imp (SZ q1 h1 (UR R ok e2) (UR R ok e3)) fun _ _ _ h=>ZL q2 h2 hs h
 ·cases h
def fj (r:Rec) (C:Cf) (Γ:Gm) (es:List Expr):Option CE:=(r.A C Γ [] es).bind fun c=>some ⟨1,c.Γ,c.js,OQ .tup (AK c.as)⟩
def fw (r:Rec) (C:Cf) (Γ:Gm) (es:List Expr):Option CE:=(r.A C Γ [] es).bind fun c=>some ⟨1,c.Γ,c.js,OQ .lst (AK c.as)⟩
def TQ:Ev Dv:=LF (.dct [] [])
theorem AW.dct {K:W.Frag} {g:G} {H:Hp} {p:Addr} (zd:Zd g H) (hp:H p=none):AW K g H 1 (.dct [] []) (.ref p) (upd H p (.dK [])):=by
 have sm:=DT hp (.dK []);refine ⟨sm,fun b=>b=p,?_,fun a q=>q▸hp⟩;unfold Rep;exact ⟨p,[],rfl,BS,(fun z=>by cases z),(fun _ z=>zd p z hp),⟨rfl,nop,Reps.nil⟩,fun b=>⟨fun z=>⟨by decide,z⟩,fun z=>z.2⟩⟩
theorem dc {X:Cx} {Γ:Gm} {pos:Pos}:PE X (.Dict [] [] pos) (tE X.K Γ 1 Γ [] TQ):=PE.imp Kk fun σ H Q q=>by
 obtain ⟨g,m,P,r,R,k,res,e,q⟩:=q;intro p hp;obtain ⟨Pv,s2,h1,r2,n2⟩:=AW.go Step.refl r (AW.dct r.zd hp);exact q _ m g P Pv _ _ e Bd.refl s2 h1 r2 n2
theorem Wv {r:Rec} (R:OkR r) {C:Cf} {X:Cx} {Γ:Gm} {es:List Expr} {x1:Nat} {pos:Pos} {c:CE} (ok:Cok C X) (h:fj r C Γ es=some c):PE X (.Tuple es x1 pos) (tE X.K Γ c.o c.Γ c.js c.f):=by
 obtain ⟨x,e1,h⟩:=bind_some' h;cases h;obtain ⟨a1,a2,_,_,a5⟩:=R.A ok e1;exact dY a1 a2 (a5 rfl)
theorem XE {r:Rec} (R:OkR r) {C:Cf} {X:Cx} {Γ:Gm} {es:List Expr} {pos:Pos} {c:CE} (ok:Cok C X) (h:fw r C Γ es=some c):PE X (.List es pos) (tE X.K Γ c.o c.Γ c.js c.f):=by
 obtain ⟨x,e1,h⟩:=bind_some' h;cases h;obtain ⟨a1,a2,_,_,a5⟩:=R.A ok e1;exact da a1 a2 (a5 rfl)
def Be:Gm->Gm->Gm
 | some a::x,some b::y=>some (if a == b then a else 0)::Be x y
 | _::x,_::y=>none::Be x y
 | _,_=>[]
def fQ (t:Dv->Option Bool) (fa:Ev (List Dv)):Ev Bool:=YX (one t) fa
def bU (r:Rec) (C:Cf) (Γ:Gm) (a:Expr):Option CT:=(Lg r C Γ a).bind fun x=>some ⟨x.Γ,x.js++[],fQ C.T.tru (AK [x.a])⟩
noncomputable def OK:Expr->Bool
 | .UnaryOp .Not _ _=>false
 | .BoolOp _ _ _=>false
 | .IfExp _ _ _ _=>false
 | .Compare _ _ _ _=>false
 | _=>true
theorem Ww {r:Rec} (R:OkR r) {C:Cf} {X:Cx} {Γ:Gm} {a:Expr} {c:CT} (ok:Cok C X) (hv:OK a=true) (h:bU r C Γ a=some c):PT X a (tT X.K Γ c.Γ c.js c.f):=by
  obtain ⟨x,e1,h⟩:=bind_some' h;cases h;obtain ⟨h1,h2⟩:=Dw R ok e1;refine PT.imp (SI h1 fun whole=>?_) fun σ H Q h=>?_
  · cases a<;>first | rfl | (cases hv;done) | skip
    rename_i op b pos;cases op<;>first | rfl | (cases hv;done)
  · obtain ⟨g,m,P,rl,R',k,res,e,q⟩:=h;have key:BP X.K [x.a] σ H fun vs H1=>∃ w,vs=[w]/\∃ b,Um X.K w H1 b/\Q b H1:=by
      refine AI [x.a] rl h2 e fun ds m' g' P' vs H1 hk ag s ar r1=>?_
      obtain ⟨b,e1,e2⟩:=bind_some' hk;unfold one at e1;split at e1
      · rename_i d;have ra:=ar.ra r1;unfold RA at ra;obtain ⟨w,wr,o,Po,rfl,_,h3,h4⟩:=ra;unfold RA at h4;subst h4;exact ⟨w,rfl,b,C.T.trok _ _ _ _ _ _ _ _ h3 e1,q b m' g' P' H1 e2 ag s r1⟩
      · cases e1
    revert key
    cases x.a with
    | ev Γa Γb ja fa =>
      rintro ⟨g,m,P,r,R,k,res,e,q⟩;refine ⟨g,m,P,r,R,k,res,e,fun d m' g' P' Pv v H' h1 h2 h3 h4 h5 h6=>?_⟩;obtain ⟨w,ew,z⟩:=q d m' g' P' Pv v H' h1 h2 h3 h4 h5 h6;cases ew;exact z
    | rf i =>
      rintro ⟨v,e,w,ew,z⟩;cases ew;exact ⟨v,e,z⟩
def bc (t:CT):CT:=⟨t.Γ,t.js,YV t.f⟩
def iX (a b:CT):CT:=let Γ':=Be a.Γ b.Γ;let js:=a.js++b.js;⟨Γ',js,Ml (Av Γ' js) (HM a.f b.f fun _ m k=>k false m)⟩
def je (a b:CT):CT:=let Γ':=Be a.Γ b.Γ;let js:=a.js++b.js;⟨Γ',js,Ml (Av Γ' js) (HM a.f (fun _ m k=>k true m) b.f)⟩
theorem eJ {X:Cx} {op:BoolOp} {vs:List Expr} {pos:Pos} {t:TT} (h:PT X (.BoolOp op vs pos) t):PW X (.BoolOp op vs pos) t:=fun wh pins s σ H Q I q=>h pins s σ H Q I q
def Xu (r:Rec) (C:Cf) (Γ:Gm) (op:BoolOp) (vs:List Expr) (pos:Pos):Option CT:=match vs with
 | []=>none
 | [a]=>r.T C Γ a
 | a::b::vs=>(r.T C Γ a).bind fun x=>(r.T C x.Γ (.BoolOp op (b::vs) pos)).bind fun y=>if BY (Be x.Γ y.Γ) x.Γ && BY (Be x.Γ y.Γ) y.Γ then some (match op with | .And=>iX x y | .Or=>je x y) else none
theorem Rj {r:Rec} (R:OkR r) {C:Cf} {X:Cx} {Γ:Gm} {op:BoolOp} {vs:List Expr} {pos:Pos} {c:CT} (ok:Cok C X) (h:Xu r C Γ op vs pos=some c):PT X (.BoolOp op vs pos) (tT X.K Γ c.Γ c.js c.f):=by
 match vs,h with
 | [],h=>cases h
 | [a],h =>
  cases op with
  | And=>exact PW.pt (Vd (R.T ok h))
  | Or=>exact PW.pt (Zb (R.T ok h))
 | a::b::vs,h =>
  obtain ⟨x,e1,h⟩:=bind_some' h;obtain ⟨y,e2,h⟩:=bind_some' h;split at h
  ·rename_i hw;rw [jh] at hw;have ha:=R.T ok e1;have hb:=eJ (R.T ok e2);have jk:∀ (i o:Nat),(Be x.Γ y.Γ)[i]?=some (some o)->i∈Av (Be x.Γ y.Γ) (x.js++y.js)\/i∉x.js++y.js:=fun i o h=>BM h
   cases op with
   | And =>
    cases h;exact PW.pt (PW.imp (Zc ha (PW.imp hb fun _ _ _ h=>Na hw.2 (fun _ z=>z) h)) fun σ H Q h=>RV (OI jk (fun i z=>Au z) h) hw.1)
   | Or =>
    cases h;exact PW.pt (PW.imp (eI ha (PW.imp hb fun _ _ _ h=>Na hw.2 (fun _ z=>z) h)) fun σ H Q h=>cu (OI jk (fun i z=>Au z) h) hw.1)
  ·cases h
def fW (p p':List Dv->Option Bool) (a:Ar) (i:Nat) (c:Ar):Ev Bool:=HM (YX p (AK [a,.rf i])) (YX p' (AK [.rf i,c])) fun R m k=>k false m
section
variable {K:W.Frag} {Γ Γ2 Γ':Gm} {js js2:List Nat} {σ:St} {H:Hp}
theorem JA {f:Ev Bool} {Q Q':Bool->Hp->Prop} (h:tT K Γ Γ' js f σ H Q) (m:∀ b H',Q b H'->Q' b H'):tT K Γ Γ' js f σ H Q':=by
 obtain ⟨g,m',P,r,R,k,res,e,q⟩:=h;exact ⟨g,m',P,r,R,k,res,e,fun b m1 g1 P1 H1 h1 h2 h3 h4=>m _ _ (q b m1 g1 P1 H1 h1 h2 h3 h4)⟩
theorem GW {a:Ar} {Q1 Q2:VK} (h12:∀ v H,Q1 v H->Q2 v H) (t:FD K a σ H Q1):FD K a σ H Q2:=by
 cases a with
 | ev Γa Γb ja fa =>
  obtain ⟨g,m,P,r,R,k,res,e,q⟩:=t;exact ⟨g,m,P,r,R,k,res,e,fun d m' g' P' Pv v H' h1 h2 h3 h4 h5 h6=>h12 _ _ (q d m' g' P' Pv v H' h1 h2 h3 h4 h5 h6)⟩
 | rf i=>obtain ⟨v,e,q⟩:=t;exact ⟨v,e,h12 _ _ q⟩
theorem Yf {o:Nat} {f:Ev Bool} {Q:VK} (h:tE K Γ o Γ' js (Mn f) σ H Q):tT K Γ Γ' js f σ H fun b H'=>Q (.bl b) H':=by
 obtain ⟨g,m,P,r,R,k,res,e,q⟩:=h;exact ⟨g,m,P,r,R,_,res,e,fun b m1 g1 P1 H1 hk ag s r1=>q (.bl b) m1 g1 P1 nop _ H1 hk ag (s.less fun _ z=>z.elim id False.elim) CM r1 fun _ _ z=>z⟩
theorem Ub {p:List Dv->Option Bool} {as:List Ar} {r:Os} (hp:AG K (fun ds=>(p ds).map .bl) 0 r) (c:AA Γ as Γ' js) {Q:VK} (h:tT K Γ Γ' js (YX p (AK as)) σ H fun b H'=>Q (.bl b) H'):BP K as σ H fun vs H1=>r vs H1 Q:=by
 obtain ⟨g,m,P,rl,R',k,res,e,q⟩:=h;refine AI as rl c e fun ds m' g' P' vs H1 hk ag s ar r1=>?_
 obtain ⟨b,e1,e2⟩:=bind_some' hk;refine hp g' H1 ds vs (.bl b) _ r1.zd (ar.ra r1) (by show (p ds).map _=_;rw [e1];rfl) fun v H2 nw=>?_
 obtain ⟨Pv,s2,h1,r2,n2⟩:=AW.go s r1 nw;rw [rep_bl h1];exact q b m' g' P' H2 e2 ag (s2.less fun _ q=>.inl q) r2
theorem Ii {p p':List Dv->Option Bool} {a c:Ar} {i o:Nat} {r r':R2} (hp:AG K (fun ds=>(p ds).map .bl) 0 (Ht r)) (hp':AG K (fun ds=>(p' ds).map .bl) 0 (Ht r')) (c1:AA Γ [a,.rf i] Γ2 js) (c2:AA Γ2 [.rf i,c] Γ' js2) (hi:Γ[i]?=some (some o)) (hw:BY Γ' Γ2=true) {Q:VK}
    (h:tT K Γ Γ' (js++js2) (fW p p' a i c) σ H fun b H'=>Q (.bl b) H'):JB r r' (FD K a) (FB i) (FD K c) σ H Q:=by
  have h0:∃ v,σ[i]?=some (some v):=by
    obtain ⟨g,m,P,r,_⟩:=h;obtain ⟨v,_,e,_⟩:=r.see hi;exact ⟨v,e⟩
  obtain ⟨v,hv⟩:=h0;have h1:=RV h hw;have h2:tT K Γ Γ2 js (YX p (AK [a,.rf i])) σ H fun b H'=>∃ k,V.bl b=V.bl k/\if k=true then FD K c σ H' fun w' H4=>r' v w' H4 Q else Q (.bl false) H':=JA h1 fun b H' q=>⟨b,rfl,by
    cases b with
    | true =>
      rw [if_pos rfl] at q ⊢;obtain ⟨v',hv',q'⟩:=Ub hp' c2 q;rw [hv] at hv';cases hv';exact q'
    | false=>rw [if_neg kI] at q ⊢;exact q⟩
  have h3:=Ub (Q:=fun z H'=>∃ k,z=V.bl k/\if k=true then FD K c σ H' fun w' H4=>r' v w' H4 Q else Q (.bl false) H') hp c1 h2;refine GW (fun x H1 z=>?_) h3;obtain ⟨w,hw',q⟩:=z;rw [hv] at hw';cases hw';exact ⟨v,hv,q⟩
end
def YW (p p':List Dv->Option Bool) (a b c:Ar):Ev Bool:=fun R m k=>AK [a,b] R m fun ds m1=>(p ds).bind fun t=>if t=true then AK [c] R m1 fun cs m2=>(p' (ds.getD 1 .non::cs)).bind fun u=>k u m2 else k false m1
theorem HP {K:W.Frag} {Γ Γ2 Γ' Γa Γb:Gm} {js js2 jb:List Nat} {σ:St} {H:Hp} {p p':List Dv->Option Bool} {a c:Ar} {fb:Ev Dv} {r r':R2} (hp:AG K (fun ds=>(p ds).map .bl) 0 (Ht r)) (hp':AG K (fun ds=>(p' ds).map .bl) 0 (Ht r')) (c1:AA Γ [a,.ev Γa Γb jb fb] Γ2 js) (c2:AA Γ2 [c] Γ' js2) (hw:BY Γ' Γ2=true) {Q:VK}
    (h:tT K Γ Γ' (js++js2) (YW p p' a (.ev Γa Γb jb fb) c) σ H fun b H'=>Q (.bl b) H'):JB r r' (FD K a) (tE K Γa 0 Γb jb fb) (FD K c) σ H Q:=by
  obtain ⟨g,m,P,rl,R,k,res,e,q⟩:=h;have key:BP K [a,.ev Γa Γb jb fb] σ H fun vs H1=>∃ x y,vs=[x,y]/\r x y H1 fun z H3=>∃ k,z=.bl k/\(if k=true then FD K c σ H3 fun w' H4=>r' y w' H4 Q else Q (.bl false) H3):=by
    refine AI _ rl c1 e fun ds m1 g1 P1 vs H1 hk ag s ar r1=>?_
    obtain ⟨t,e1,e2⟩:=bind_some' hk;have ra:=ar.ra r1
    -- the middle's value is frozen
    obtain ⟨dx,dy,x,y,rfl,rfl,ry⟩:∃ dx dy x y,ds=[dx,dy]/\vs=[x,y]/\Rep K g1 H1 0 dy y nop:=by
      cases a with
      | rf i =>
        unfold AL at ar;obtain ⟨v,ds',vs',rfl,rfl,_,_,ar⟩:=ar;unfold AL at ar;obtain ⟨d,v',ds',vs',rfl,rfl,h1,ar⟩:=ar;unfold AL at ar;obtain ⟨rfl,rfl⟩:=ar;exact ⟨_,_,_,_,rfl,rfl,h1⟩
      | ev _ _ _ _ =>
        unfold AL at ar;obtain ⟨d0,v,ds',vs',rfl,rfl,_,ar⟩:=ar;unfold AL at ar;obtain ⟨d,v',ds',vs',rfl,rfl,h1,ar⟩:=ar;unfold AL at ar;obtain ⟨rfl,rfl⟩:=ar;exact ⟨_,_,_,_,rfl,rfl,h1⟩
    refine ⟨x,y,rfl,hp g1 H1 [dx,dy] [x,y] (.bl t) _ r1.zd ra (by show (p _).map _=_;rw [e1];rfl) fun v H2 nw=>?_⟩;obtain ⟨Pv,s2,h1,r2,n2⟩:=AW.go s r1 nw;have sm:=nw.1;have ry2:Rep K g1 H2 0 dy y nop:=ry.held (Step.same (g:=g1) (P:=nop) sm) FpOk.nop fun _ z=>z.elim
    have s3:Step g P H g1 P1 H2:=s2.less fun _ z=>.inl z
    refine ⟨t,rep_bl h1,?_⟩;cases t with
    | false =>
      rw [if_neg kI] at e2 ⊢;obtain ⟨g4,P4,s4,r4⟩:=r2.weaken hw;exact q false m1 g4 P4 H2 e2 (ag.mono fun _ z=>kH _ z) (s3.trans s4) r4
    | true =>
      rw [if_pos rfl] at e2 ⊢;have key2:BP K [c] σ H2 fun ws H4=>∃ w,ws=[w]/\r' y w H4 Q:=by
        refine AI _ r2 c2 e2 fun cs m2 g4 P4 ws H4 hk2 ag2 s4 ar2 r4=>?_
        obtain ⟨u,e3,e4⟩:=bind_some' hk2;have ra2:=ar2.ra r4;have al:=ar2.len
        match cs,ws,al.1,al.2,ra2,e3 with
        | [cd],[w],_,_,ra2,e3 =>
          have ry4:Rep K g4 H4 0 dy y nop:=ry2.held s4 r2.fpOk fun _ z=>z.elim
          refine ⟨w,rfl,hp' g4 H4 [dy,cd] [y,w] (.bl u) Q r4.zd (by unfold RA;exact ⟨y,[w],0,nop,rfl,by decide,ry4,ra2⟩) (by show (p' _).map _=_;rw [show p' [dy,cd]=some u from e3];rfl) fun v' H5 nw'=>?_⟩;obtain ⟨Pv',s5,h5,r5,n5⟩:=AW.go (s3.trans s4) r4 nw';rw [rep_bl h5];exact q u m2 g4 P4 H5 e4 (ag.trans ag2) (s5.less fun _ z=>.inl z) r5
      refine GW (fun w H4 z=>?_) key2;obtain ⟨w',ew,z⟩:=z;cases ew;exact z
  refine GW (fun x H1 z=>?_) key;obtain ⟨g,m,P,r,R,k,res,e,q⟩:=z;refine ⟨g,m,P,r,R,k,res,e,fun d m' g' P' Pv v H' h1 h2 h3 h4 h5 h6=>?_⟩;obtain ⟨x',y',ev,z⟩:=q d m' g' P' Pv v H' h1 h2 h3 h4 h5 h6;cases ev;exact z
def bw (r:Rec) (C:Cf) (Γ:Gm) (a:Expr) (op:CmpOp) (b:Expr) (op':CmpOp) (c:Expr):Option CT:=if lastMarks [op,op'] [b,c] then none else (C.T.cmps.find? fun e=>e.op == op).bind fun en=>(C.T.cmps.find? fun e=>e.op == op').bind fun en'=>(Dd r C Γ true a).bind fun x=>(r.E C x.Γ b).bind fun y=>(Dd r C y.Γ true c).bind fun z =>
 if DI x.a y.Γ && DI z.a z.Γ && BY z.Γ y.Γ then some ⟨z.Γ,(x.js++(y.js++[]))++(z.js++[]),YW (two en.f) (two en'.f) x.a (.ev x.Γ y.Γ y.js y.f) z.a⟩ else none
theorem XI {r:Rec} (R:OkR r) {C:Cf} {X:Cx} {Γ:Gm} {a b c:Expr} {op op':CmpOp} {pos:Pos} {t:CT} (ok:Cok C X) (h:bw r C Γ a op b op' c=some t):PT X (.Compare a [op,op'] [b,c] pos) (tT X.K Γ t.Γ t.js t.f)/\∀ o,PE X (.Compare a [op,op'] [b,c] pos) (tE X.K Γ o t.Γ t.js (Mn t.f)):=by
 unfold bw at h;split at h
 ·cases h
 ·rename_i hm;rw [mn] at hm;obtain ⟨en,e1,h⟩:=bind_some' h;obtain ⟨en',e2,h⟩:=bind_some' h;obtain ⟨x,e3,h⟩:=bind_some' h;obtain ⟨y,e5,h⟩:=bind_some' h;obtain ⟨z,e4,h⟩:=bind_some' h;split at h
  ·rename_i hw;simp only [jh] at hw;obtain ⟨⟨w2,w4⟩,w6⟩:=hw;cases h;have eo:en.op=op:=by simpa using kz e1
   have eo':en'.op=op':=by simpa using kz e2
   obtain ⟨rr,q1,q2⟩:=en.ok X ok.gx;obtain ⟨rr',q1',q2'⟩:=en'.ok X ok.gx;rw [eo] at q1;rw [eo'] at q1';obtain ⟨a1,_,a2⟩:=Bc R ok e3;obtain ⟨b1,_,b2⟩:=Bc R ok e4;have hb:=DA (R.E ok e5);have c1:AA Γ [x.a,.ev x.Γ y.Γ y.js y.f] y.Γ (x.js++(y.js++[])):=a2 (by unfold AA;exact ⟨rfl,_,rfl,BH⟩) w2;have c2:AA y.Γ [z.a] z.Γ (z.js++[]):=b2 BH w4;exact ⟨PT.imp (Kc q1 q1' a1 hb b1 hm) fun σ H Q h=>HP (Q:=fun v H'=>∃ k,v=V.bl k/\Q k H') q2 q2' c1 c2 w6 (JA h fun b H' q=>⟨b,rfl,q⟩),fun o=>PE.imp (Km q1 q1' a1 hb b1 hm) fun σ H Q h=>HP q2 q2' c1 c2 w6 (Yf h)⟩
  ·cases h
def iV (r:Rec) (C:Cf) (Γ:Gm) (a:Expr) (op:CmpOp) (b:Expr) (op':CmpOp) (c:Expr):Option CT:=if lastMarks [op,op'] [b,c] then none else (Sk C b).bind fun i=>(C.T.cmps.find? fun e=>e.op == op).bind fun en=>(C.T.cmps.find? fun e=>e.op == op').bind fun en'=>(Dd r C Γ true a).bind fun x=>(Dd r C x.Γ true c).bind fun z =>
 if (Γ.getD i none).isSome && DI x.a x.Γ && cR x.Γ i && DI z.a z.Γ && cR z.Γ i && BY z.Γ x.Γ then some ⟨z.Γ,(x.js++[])++(z.js++[]),fW (two en.f) (two en'.f) x.a i z.a⟩ else none
theorem bu {r:Rec} (R:OkR r) {C:Cf} {X:Cx} {Γ:Gm} {a b c:Expr} {op op':CmpOp} {pos:Pos} {t:CT} (ok:Cok C X) (h:iV r C Γ a op b op' c=some t):PT X (.Compare a [op,op'] [b,c] pos) (tT X.K Γ t.Γ t.js t.f)/\∀ o,PE X (.Compare a [op,op'] [b,c] pos) (tE X.K Γ o t.Γ t.js (Mn t.f)):=by
 unfold iV at h;split at h
 ·cases h
 ·rename_i hm;rw [mn] at hm;obtain ⟨i,e0,h⟩:=bind_some' h;obtain ⟨en,e1,h⟩:=bind_some' h;obtain ⟨en',e2,h⟩:=bind_some' h;obtain ⟨x,e3,h⟩:=bind_some' h;obtain ⟨z,e4,h⟩:=bind_some' h;split at h
  ·rename_i hw;simp only [jh] at hw;obtain ⟨⟨⟨⟨⟨w1,w2⟩,w3⟩,w4⟩,w5⟩,w6⟩:=hw;cases h;have eo:en.op=op:=by simpa using kz e1
   have eo':en'.op=op':=by simpa using kz e2
   obtain ⟨rr,q1,q2⟩:=en.ok X ok.gx;obtain ⟨rr',q1',q2'⟩:=en'.ok X ok.gx;rw [eo] at q1;rw [eo'] at q1';obtain ⟨a1,_,a2⟩:=Bc R ok e3;obtain ⟨b1,_,b2⟩:=Bc R ok e4;obtain ⟨o,hi⟩:=getD_some w1;obtain ⟨o2,lo2,hi2⟩:=Gz w3;have c1:AA Γ [x.a,.rf i] x.Γ (x.js++[]):=a2 (by unfold AA;exact ⟨⟨o2,hi2⟩,⟨o2,lo2,hi2⟩,BH⟩) w2;have c2:AA x.Γ [.rf i,z.a] z.Γ (z.js++[]):=by
    unfold AA;exact ⟨⟨o2,hi2⟩,Gz w5,b2 BH w4⟩
   exact ⟨PT.imp (Kc q1 q1' a1 (Cb ok e0) b1 hm) fun σ H Q h=>Ii (Q:=fun v H'=>∃ k,v=V.bl k/\Q k H') q2 q2' c1 c2 hi w6 (JA h fun b H' q=>⟨b,rfl,q⟩),fun o=>PE.imp (Km q1 q1' a1 (Cb ok e0) b1 hm) fun σ H Q h=>Ii q2 q2' c1 c2 hi w6 (Yf h)⟩
  ·cases h
def NI (r:Rec) (C:Cf) (Γ:Gm) (a:Expr) (op:CmpOp) (b:Expr) (op':CmpOp) (c:Expr):Option CT:=match Sk C b with
 | some _=>iV r C Γ a op b op' c
 | none=>bw r C Γ a op b op' c
theorem Oi {r:Rec} (R:OkR r) {C:Cf} {X:Cx} {Γ:Gm} {a b c:Expr} {op op':CmpOp} {pos:Pos} {t:CT} (ok:Cok C X) (h:NI r C Γ a op b op' c=some t):PT X (.Compare a [op,op'] [b,c] pos) (tT X.K Γ t.Γ t.js t.f)/\∀ o,PE X (.Compare a [op,op'] [b,c] pos) (tE X.K Γ o t.Γ t.js (Mn t.f)):=by
 unfold NI at h;split at h
 ·exact bu R ok h
 ·exact XI R ok h
def Xr (r:Rec) (C:Cf) (Γ:Gm) (e:Expr):Option CT:=match e with
 | .Compare a [op] [b] _=>NH r C Γ a op b
 | .Compare a [op,op'] [b,c] _=>NI r C Γ a op b op' c
 | .UnaryOp .Not x _=>(r.T C Γ x).map bc
 | .BoolOp op vs pos=>Xu r C Γ op vs pos
 | e=>if OK e then bU r C Γ e else none
theorem Rc {r:Rec} (R:OkR r) {C:Cf} {X:Cx} {Γ:Gm} {e:Expr} {c:CT} (ok:Cok C X) (h:Xr r C Γ e=some c):PT X e (tT X.K Γ c.Γ c.js c.f):=by
 have val:OK e=true->(if OK e then bU r C Γ e else none)=some c->PT X e (tT X.K Γ c.Γ c.js c.f):=fun hv h=>by
  rw [if_pos hv] at h;exact Ww R ok hv h
 match e,h with
 | .Compare a ops bs pos,h =>
  match ops,bs,h with
  | [op],[b],h=>exact (Oh R ok h).1
  | [op,op'],[b,c],h=>exact (Oi R ok h).1
  | [],_,h=>cases h
  | [_],[],h=>cases h
  | [_],_::_::_,h=>cases h
  | [_,_],[],h=>cases h
  | [_,_],[_],h=>cases h
  | [_,_],_::_::_::_,h=>cases h
  | _::_::_::_,_,h=>cases h
 | .UnaryOp op x pos,h =>
  cases op with
  | Not =>
   cases q:r.T C Γ x with
   | none=>replace h:(r.T C Γ x).map bc=some c:=h;rw [q] at h;cases h
   | some t =>
    replace h:(r.T C Γ x).map bc=some c:=h;rw [q] at h;cases h;exact PT.imp (Ze (R.T ok q)) fun _ _ _ h=>Yz h
  | _=>exact val rfl h
 | .BoolOp op vs pos,h=>exact Rj R ok h
 | .IfExp a b c' d,h=>cases h
 | .NamedExpr ..,h | .BinOp ..,h | .Lambda ..,h | .Dict ..,h | .Set ..,h | .ListComp ..,h | .SetComp ..,h | .DictComp ..,h | .GeneratorExp ..,h | .Await ..,h | .Yield ..,h | .YieldFrom ..,h | .Call ..,h | .FormattedValue ..,h | .JoinedStr ..,h | .Constant ..,h | .Attribute ..,h | .Subscript ..,h | .Starred ..,h | .Name ..,h | .List ..,h | .Tuple ..,h | .Slice ..,h=>exact val rfl h
noncomputable def cV {R:Type} (d:Dv) (k:Bool->Option R):Option R:=match d with | .bl b=>k b | _=>none
theorem HQ {R:Type} {d:Dv} {k:Bool->Option R} {r:R} (h:cV d k=some r):∃ b,d=.bl b/\k b=some r:=by
 cases d<;>first | (cases h;done) | exact ⟨_,rfl,h⟩
def Td (f g:Ev Dv):Ev Dv:=fun R m k=>f R m fun d m1=>cV d fun b=>if b=true then g R m1 k else k (.bl false) m1
def YU (f g:Ev Dv):Ev Dv:=fun R m k=>f R m fun d m1=>cV d fun b=>if b=true then k (.bl true) m1 else g R m1 k
def TN (f:Ev Dv):Ev Dv:=fun R m k=>f R m fun d m1=>cV d fun b=>k (.bl (!b)) m1
section
variable {K:W.Frag} {Γ Γ' Γ2:Gm} {js js2:List Nat} {σ:St} {H:Hp} {f u:Ev Dv} {Q:VK}
theorem ZD (hw:BY Γ' Γ2=true) (h:tE K Γ 0 Γ' (js++js2) (Td f u) σ H Q):Xq (tE K Γ 0 Γ2 js f) (tE K Γ2 0 Γ' js2 u) σ H Q:=by
 obtain ⟨g,m,P,r,R,k,res,e,q⟩:=h;refine ⟨g,m,P,r,R,_,res,e,fun d m1 g1 P1 Pv v H1 hk ag s rv r1 n=>?_⟩;replace hk:=HQ hk;obtain ⟨b,rfl,hk⟩:=hk;have s1:Step _ _ _ g1 P1 H1:=s.less fun _ z=>.inl z
 refine ⟨b,rep_bl rv,?_⟩;cases b with
 | true=>rw [if_pos rfl] at hk ⊢;exact ⟨g1,m1,P1,r1,R,k,res,hk,fun d m2 g2 P2 Pw w H2 hk2 ag2 s2 rv2 r2 n2=>q d m2 g2 P2 Pw w H2 hk2 (ag.trans ag2) (s1.trans s2) rv2 r2 n2⟩
 | false =>
  rw [if_neg kI] at hk ⊢;obtain ⟨g2,P2,s2,r2⟩:=r1.weaken hw;exact q _ m1 g2 P2 nop _ H1 hk (ag.mono fun _ z=>kH _ z) ((s1.trans s2).less fun _ z=>z.elim id False.elim) CM r2 fun _ _ z=>z
theorem dC (hw:BY Γ' Γ2=true) (h:tE K Γ 0 Γ' (js++js2) (YU f u) σ H Q):cx (tE K Γ 0 Γ2 js f) (tE K Γ2 0 Γ' js2 u) σ H Q:=by
 obtain ⟨g,m,P,r,R,k,res,e,q⟩:=h;refine ⟨g,m,P,r,R,_,res,e,fun d m1 g1 P1 Pv v H1 hk ag s rv r1 n=>?_⟩;replace hk:=HQ hk;obtain ⟨b,rfl,hk⟩:=hk;have s1:Step _ _ _ g1 P1 H1:=s.less fun _ z=>.inl z
 refine ⟨b,rep_bl rv,?_⟩;cases b with
 | false=>rw [if_neg kI] at hk ⊢;exact ⟨g1,m1,P1,r1,R,k,res,hk,fun d m2 g2 P2 Pw w H2 hk2 ag2 s2 rv2 r2 n2=>q d m2 g2 P2 Pw w H2 hk2 (ag.trans ag2) (s1.trans s2) rv2 r2 n2⟩
 | true =>
  rw [if_pos rfl] at hk ⊢;obtain ⟨g2,P2,s2,r2⟩:=r1.weaken hw;exact q _ m1 g2 P2 nop _ H1 hk (ag.mono fun _ z=>kH _ z) ((s1.trans s2).less fun _ z=>z.elim id False.elim) CM r2 fun _ _ z=>z
theorem ZC (h:tE K Γ 0 Γ' js (TN f) σ H Q):Xl (tE K Γ 0 Γ' js f) σ H Q:=by
 obtain ⟨g,m,P,r,R,k,res,e,q⟩:=h;refine ⟨g,m,P,r,R,_,res,e,fun d m1 g1 P1 Pv v H1 hk ag s rv r1 n=>?_⟩;replace hk:=HQ hk;obtain ⟨b,rfl,hk⟩:=hk;exact ⟨b,rep_bl rv,q _ m1 g1 P1 nop _ H1 hk ag (s.less fun _ z=>z.elim .inl False.elim) CM r1 fun _ _ z=>z⟩
end
def fo (r:Rec) (C:Cf) (Γ:Gm) (x:Expr):Option CE:=(r.E C Γ x).bind fun c=>some ⟨0,c.Γ,c.js,TN c.f⟩
def Rk (r:Rec) (C:Cf) (Γ:Gm) (op:BoolOp) (vs:List Expr) (pos:Pos):Option CE:=match vs with
 | []=>none
 | [a]=>r.E C Γ a
 | a::b::vs=>(r.E C Γ a).bind fun x=>(r.E C x.Γ (.BoolOp op (b::vs) pos)).bind fun y=>let Γ':=Be x.Γ y.Γ;let js:=x.js++y.js;if BY Γ' x.Γ && BY Γ' y.Γ then some ⟨0,Γ',js,Ml (Av Γ' js) (match op with | .And=>Td x.f y.f | .Or=>YU x.f y.f)⟩ else none
theorem PF {r:Rec} (R:OkR r) {C:Cf} {X:Cx} {Γ:Gm} {op:BoolOp} {vs:List Expr} {pos:Pos} {c:CE} (ok:Cok C X) (h:Rk r C Γ op vs pos=some c):PE X (.BoolOp op vs pos) (tE X.K Γ c.o c.Γ c.js c.f):=by
 match vs,h with
 | [],h=>cases h
 | [a],h=>exact Zx (R.E ok h)
 | a::b::vs,h =>
  obtain ⟨x,e1,h⟩:=bind_some' h;obtain ⟨y,e2,h⟩:=bind_some' h;simp only at h;split at h
  ·rename_i hw;rw [jh] at hw;have ha:=DA (R.E ok e1);have hb:=DA (R.E ok e2);have jk:∀ (i o:Nat),(Be x.Γ y.Γ)[i]?=some (some o)->i∈Av (Be x.Γ y.Γ) (x.js++y.js)\/i∉x.js++y.js:=fun i o h=>BM h
   cases op with
   | And=>cases h;exact PE.imp (aC ha (PE.imp hb fun _ _ _ h=>GI hw.2 (fun _ z=>z) h)) fun σ H Q h=>ZD hw.1 (GN jk (fun i z=>Au z) h)
   | Or=>cases h;exact PE.imp (eQ ha (PE.imp hb fun _ _ _ h=>GI hw.2 (fun _ z=>z) h)) fun σ H Q h=>dC hw.1 (GN jk (fun i z=>Au z) h)
  ·cases h
def gA (r:Rec) (C:Cf) (Γ:Gm) (c a b:Expr):Option CE:=(r.T C Γ c).bind fun t=>(r.E C t.Γ a).bind fun x=>(r.E C t.Γ b).bind fun y=>let Γ':=Be x.Γ y.Γ;let js:=t.js++(x.js++y.js);if BY Γ' x.Γ && BY Γ' y.Γ then some ⟨0,Γ',js,Ml (Av Γ' js) (HM t.f x.f y.f)⟩ else none
theorem XF {r:Rec} (R:OkR r) {C:Cf} {X:Cx} {Γ:Gm} {c a b:Expr} {pos:Pos} {d:CE} (ok:Cok C X) (h:gA r C Γ c a b=some d):PE X (.IfExp c a b pos) (tE X.K Γ d.o d.Γ d.js d.f):=by
 obtain ⟨t,e1,h⟩:=bind_some' h;obtain ⟨x,e2,h⟩:=bind_some' h;obtain ⟨y,e3,h⟩:=bind_some' h;simp only at h;split at h
 ·rename_i hw;rw [jh] at hw;cases h;exact PE.imp (Sa (R.T ok e1) (PE.imp (DA (R.E ok e2)) fun _ _ _ h=>GI hw.1 (fun _ z=>z) h) (PE.imp (DA (R.E ok e3)) fun _ _ _ h=>GI hw.2 (fun _ z=>z) h)) fun σ H Q h=>dD (GN (fun i o z=>BM z) (fun i z=>Au z) h)
 ·cases h
theorem BD {es:List Expr} {env:Env} {pos:Pos} (h:es.all Aq=true):(backTo pos (starEach es env)).any (·.1)=false:=by
 induction es with
 | nil=>rfl
 | cons e es ih =>
  rw [kr,jh] at h;rw [AF h.1];show (false || (backTo pos (starEach es env)).any (·.1))=false;rw [ih h.2];rfl
theorem cI {es:List Expr} {env:Env} {pos:Pos} (h:es.all Aq=true):(backTo pos (starEach es env)).all (fun x=>!x.1)=true:=by
 induction es with
 | nil=>rfl
 | cons e es ih =>
  rw [kr,jh] at h;rw [AF h.1];show (true && (backTo pos (starEach es env)).all (fun x=>!x.1))=true;rw [ih h.2];rfl
def Yb (r:Rec) (C:Cf) (Γ:Gm) (s:Sig) (es:List Expr):Option CE:=(r.A C Γ ((List.range es.length).map s.io.contains) es).bind fun c=>if VT c.as s.io && (es.length == s.ps.length) && (slots c.as s.io).all (fun i=>c.Γ.getD i none == some 1) then some ⟨s.ro,c.Γ,c.js++slots c.as s.io,Mm s c.as⟩ else none
theorem UM {r:Rec} (R:OkR r) {C:Cf} {X:Cx} {Γ:Gm} {x:Str} {s:Sig} {es:List Expr} {p pos:Pos} {c:CE} (ok:Cok C X) (hs:(x,s)∈C.fs) (hg:Gl X x) (hn:Qx x=true) (h:Yb r C Γ s es=some c):PE X (.Call (.Name x p) es [] pos) (tE X.K Γ c.o c.Γ c.js c.f):=by
 obtain ⟨c1,e1,h⟩:=bind_some' h;split at h
 ·rename_i hw;simp only [jh,ka,beq_iff_eq] at hw;cases h;obtain ⟨a1,a2,a3,a4,_⟩:=R.A ok e1;obtain ⟨nd,hio,j,kk,hj,hrm,F⟩:=ok.fs x s hs;have run:∀ {σ H Q},tE X.K Γ s.ro c1.Γ (c1.js++slots c1.as s.io) (Mm s c1.as) σ H Q->cz (Nm X.K s) (BP X.K c1.as) σ H Q:=fun h=>UA a2 hw.1.1 (a3.trans hw.1.2) nd hio (fun i hi=>Az (hw.2 i hi)) h
  cases es with
  | nil =>
   have e:c1.as=[]:=kl a3;refine PE.imp (Sb F hrm hj hg (Bu hn).1) fun σ H Q h=>?_
   have:=run h;rw [e] at this;exact this
  | cons e es =>
   rw [kr,jh] at a4;exact PE.imp (Kj F hrm hj hg a1 (Bu hn).1 (AF a4.1) (BD a4.2)) fun σ H Q h=>run h
 ·cases h
def YZ (r:Rec) (C:Cf) (Γ:Gm) (s:Sig) (es:List Expr):Option CE:=(r.A C Γ (List.replicate es.length true) es).bind fun c=>if es.length == s.ps.length then some ⟨1,c.Γ,c.js,Jc s c.as⟩ else none
theorem UI {r:Rec} (R:OkR r) {C:Cf} {X:Cx} {Γ:Gm} {x:Str} {s:Sig} {es:List Expr} {p pos:Pos} {c:CE} (ok:Cok C X) (hs:(x,s)∈C.fs) (hio:s.io=[]) (hg:Gl X x) (hn:Qx x=true) (h:YZ r C Γ s es=some c):PE X (.Call (.Name x p) es [] pos) (tE X.K Γ c.o c.Γ c.js c.f):=by
 obtain ⟨c1,e1,h⟩:=bind_some' h;split at h
 ·rename_i hw;rw [beq_iff_eq] at hw;cases h;obtain ⟨a1,a2,a3,a4,_⟩:=R.A ok e1;obtain ⟨nd,_,j,kk,hj,hrm,F⟩:=ok.fs x s hs;have run:∀ {σ H Q},tE X.K Γ 1 c1.Γ c1.js (Jc s c1.as) σ H Q->cz (Nm X.K s) (BP X.K c1.as) σ H Q:=fun h=>QY a2 hio (a3.trans hw) h
  cases es with
  | nil =>
   have e:c1.as=[]:=kl a3;refine PE.imp (Sb F hrm hj hg (Bu hn).1) fun σ H Q h=>?_
   have:=run h;rw [e] at this;exact this
  | cons e es =>
   rw [kr,jh] at a4;exact PE.imp (Kj F hrm hj hg a1 (Bu hn).1 (AF a4.1) (BD a4.2)) fun σ H Q h=>run h
 ·cases h
theorem Cn:∀ (sl:List Nat) (bs:List Dv) (m:M) (d:Dv),∃ d',EB sl bs (m++[d])=EB sl bs m++[d']
 | [],_,m,d=>⟨d,rfl⟩
 | _::_,[],m,d=>⟨d,rfl⟩
 | s::sl,b::bs,m,d=>by
  unfold EB
  by_cases h:s < m.length
  ·rw [List.set_append_left _ _ h];exact Cn sl bs _ d
  ·rw [List.set_append_right _ _ (by omega),List.set_eq_of_length_le (l:=m) (by omega)];cases s - m.length with
   | zero=>exact Cn sl bs m b
   | succ k=>exact Cn sl bs m d
section
variable {K:W.Frag} {g:G} {H H':Hp} {σ:St} {Γ Γ':Gm} {js:List Nat} {m:M} {P:Fp} {as:List Ar}
theorem Rel.snoc {d:Dv} {v:V} {Pv:Fp} (r:Rel K g H Γ m σ P) (h:Rep K g H 1 d v Pv) (n:Disj P Pv):Rel K g H (Γ++[some 1]) (m++[d]) (σ++[some v]) fun a=>P a\/Pv a:=by
  obtain ⟨zd,F,h1,h4⟩:=r
  let F':Nat->Fp:=fun i a=>(i < Γ.length/\F i a)\/(i=Γ.length/\Pv a)
  have lt:∀ {i:Nat} {a:Addr},F i a->i < Γ.length:=fun {i a} z=>by
    rcases Nat.lt_or_ge i Γ.length with w | w
    · exact w
    · exact (h1.out i (fun o e=>by rw [lG w] at e;cases e) a z).elim
  refine ⟨zd,F',⟨by simp [h1.l1],by simp [h1.l2],fun i o e=>?_,fun i e a z=>?_,fun i j ne a z w=>?_⟩,fun a=>⟨fun z=>?_,fun ⟨i,z⟩=>?_⟩⟩
  · rcases Nat.lt_or_ge i Γ.length with w | w
    · rw [kK w] at e;obtain ⟨d',v',e1,e2,e3⟩:=h1.rep i o e;refine ⟨d',v',by rw [kK (by rw [h1.l1];exact w)];exact e1,by rw [kK (by rw [h1.l2];exact w)];exact e2,e3.iff fun a=>⟨fun z=>z.elim (fun z=>z.2) fun z=>by omega,fun z=>.inl ⟨w,z⟩⟩⟩
    · have:i=Γ.length:=by
        have:=(jo.mp e).1;simp at this;omega
      subst this;rw [kS (ju _),lF] at e;cases e;refine ⟨d,v,by rw [<- h1.l1,kS (ju _),lF];rfl,by rw [<- h1.l2,kS (ju _),lF];rfl,h.iff fun a=>⟨fun z=>z.elim (fun z=>by omega) fun z=>z.2,fun z=>.inr ⟨rfl,z⟩⟩⟩
  · rcases z with ⟨w,z⟩ | ⟨rfl,z⟩
    · exact h1.out i (fun o e'=>e o (by rw [kK w];exact e')) a z
    · exact e 1 (by rw [kS (ju _),lF];rfl)
  · rcases z with ⟨_,z⟩ | ⟨e1,z⟩<;>rcases w with ⟨_,w⟩ | ⟨e2,w⟩
    · exact h1.dj i j ne a z w
    · exact n a ((h4 a).mpr ⟨i,z⟩) w
    · exact n a ((h4 a).mpr ⟨j,w⟩) z
    · omega
  · rcases z with z | z
    · obtain ⟨i,z⟩:=(h4 a).mp z;exact ⟨i,.inl ⟨lt z,z⟩⟩
    · exact ⟨_,.inr ⟨rfl,z⟩⟩
  · rcases z with ⟨_,z⟩ | ⟨_,z⟩
    · exact .inl ((h4 a).mpr ⟨i,z⟩)
    · exact .inr z
theorem Rel.init {x:Option Nat} {d:Dv} {y:Option V} (r:Rel K g H (Γ++[x]) (m++[d]) (σ++[y]) P):∃ P0,Rel K g H Γ m σ P0/\∀ a,P0 a->P a:=by
 obtain ⟨zd,F,h1,h4⟩:=r;have l1:m.length=Γ.length:=by have:=h1.l1;simpa using this
 have l2:σ.length=Γ.length:=by have:=h1.l2;simpa using this
 let F':Nat->Fp:=fun i a=>i < Γ.length/\F i a
 refine ⟨fun a=>∃ i,F' i a,⟨zd,F',⟨l1,l2,fun i o e=>?_,fun i e a z=>?_,fun i j ne a z w=>h1.dj i j ne a z.2 w.2⟩,fun _=>Iff.rfl⟩,fun a ⟨i,z⟩=>(h4 a).mpr ⟨i,z.2⟩⟩
 ·have w:=(jo.mp e).1;obtain ⟨d',v',e1,e2,e3⟩:=h1.rep i o (by rw [kK w];exact e);rw [kK (by omega)] at e1 e2;exact ⟨d',v',e1,e2,e3.iff fun a=>⟨fun z=>z.2,fun z=>⟨w,z⟩⟩⟩
 ·exact h1.out i (fun o e'=>e o (by rw [kK z.1] at e';exact e')) a z.2
theorem AL.snoc {d:Dv} {v:V} (l1:m.length=Γ.length) (l2:σ.length=Γ.length) (s:NV H H'):∀ {as:List Ar} {ds:List Dv} {vs:List V},AL K g H Γ m σ as ds vs->AL K g H' (Γ++[some 1]) (m++[d]) (σ++[some v]) (as++[Ar.rf Γ.length]) (ds++[d]) (vs++[v])
 | [],ds,vs,h=>by
  unfold AL at h;obtain ⟨rfl,rfl⟩:=h;show AL K g H' _ _ _ [Ar.rf Γ.length] [d] [v];unfold AL;refine ⟨v,[],[],?_,rfl,by rw [<- l2,kS (ju _),lF];rfl,⟨1,by decide,by rw [kS (ju _),lF];rfl⟩,by unfold AL;exact ⟨rfl,rfl⟩⟩;have:(m++[d]).at Γ.length=d:=by unfold M.at;rw [kL,<- l1,kS (ju _),lF];rfl
  rw [this]
 | .ev _ _ _ f::as,ds,vs,h=>by
  unfold AL at h;obtain ⟨d0,v0,ds',vs',rfl,rfl,h1,h2⟩:=h;show AL K g H' _ _ _ (.ev _ _ _ f::(as++[Ar.rf Γ.length])) (d0::(ds'++[d])) (v0::(vs'++[v]));unfold AL;exact ⟨d0,v0,_,_,rfl,rfl,h1.held (Step.same (g:=g) (P:=nop) s) FpOk.nop fun _ z=>z.elim,AL.snoc l1 l2 s h2⟩
 | .rf i::as,ds,vs,h=>by
  unfold AL at h;obtain ⟨v0,ds',vs',rfl,rfl,h1,⟨o,ho,h2⟩,h3⟩:=h;have w:=(jo.mp h2).1;show AL K g H' _ _ _ (.rf i::(as++[Ar.rf Γ.length])) (m.at i::(ds'++[d])) (v0::(vs'++[v]));unfold AL;refine ⟨v0,_,_,?_,rfl,by rw [kK (by omega)];exact h1,⟨o,ho,by rw [kK w];exact h2⟩,AL.snoc l1 l2 s h3⟩;have:(m++[d]).at i=m.at i:=by unfold M.at;rw [kL,kL,kK (by omega)]
  rw [this]
def Jd (s:Sig) (as:List Ar) (N:Nat):Ev Dv:=fun R m k=>AK as R m fun ds m1=>s.cps R (ds++[.dct [] []]) fun d bs=>k d (EB (slots (as++[Ar.rf N]) s.io) bs m1)
theorem Qh {s:Sig} (c:AA Γ as Γ' js) (hs:VT (as++[Ar.rf Γ'.length]) s.io=true) (hn:(as++[Ar.rf Γ'.length]).length=s.ps.length) (nd:s.io.Nodup) (hio:∀ i∈s.io,i < s.ps.length) (hl:∀ i∈slots (as++[Ar.rf Γ'.length]) s.io,(Γ'++[some 1])[i]?=some (some 1)) {Q:VK}
    (h:tE K Γ s.ro Γ' (js++slots (as++[Ar.rf Γ'.length]) s.io) (Jd s as Γ'.length) σ H Q):BP K as σ H fun vs H1=>∀ p,H1 p=none->Nm K s (vs++[.ref p]) (upd H1 p (.dK [])) Q E0:=by
  obtain ⟨g,m,P,r,R,k,res,e,q⟩:=h;refine AI as r c e fun ds m1 g1 P1 vs H1 hk ag st ar r1 p hp=>?_
  rw [s.eq] at hk;obtain ⟨⟨d,bs⟩,e1,e2⟩:=bind_some' hk;have nw:AW K g1 H1 1 (.dct [] []) (.ref p) (upd H1 p (.dK [])):=AW.dct r1.zd hp;have sm:=nw.1;obtain ⟨Pv,s2,h1,r2,n2⟩:=AW.go Step.refl r1 nw;obtain ⟨l1,l2⟩:m1.length=Γ'.length/\σ.length=Γ'.length:=by obtain ⟨_,F,h,_⟩:=r1;exact ⟨h.l1,h.l2⟩
  refine Fg hs hn nd hio hl (r2.snoc h1 n2) (ar.snoc l1 l2 sm) e1 fun g2 P2 Pw v H2 st2 rv rz n=>?_
  obtain ⟨d',ed⟩:=Cn (slots (as++[Ar.rf Γ'.length]) s.io) bs m1 (.dct [] []);rw [ed] at rz;obtain ⟨P0,r0,hP⟩:=rz.init;exact q d _ g2 P0 Pw v H2 e2 (ag.trans (Gr _ bs m1)) (st.trans (s2.trans (st2.less fun a z=>z.elim (fun z=>.inl (hP a z)) .inr))) rv r0 fun a z w=>n a (hP a z) w
end
noncomputable def JW:Expr->Bool
 | .Dict [] [] _=>true
 | _=>false
theorem QI {e:Expr} (h:JW e=true):∃ pos,e=.Dict [] [] pos:=by
 unfold JW at h;split at h
 ·exact ⟨_,rfl⟩
 ·cases h
def Ya (r:Rec) (C:Cf) (Γ:Gm) (s:Sig) (es:List Expr):Option CE:=(r.A C Γ ((List.range es.length).map s.io.contains) es.dropLast).bind fun c=>if VT (c.as++[Ar.rf c.Γ.length]) s.io && (es.length == s.ps.length) && (slots (c.as++[Ar.rf c.Γ.length]) s.io).all (fun i=>(c.Γ++[some 1]).getD i none == some 1) then some ⟨s.ro,c.Γ,c.js++slots (c.as++[Ar.rf c.Γ.length]) s.io,Jd s c.as c.Γ.length⟩ else none
theorem UL {r:Rec} (R:OkR r) {C:Cf} {X:Cx} {Γ:Gm} {x:Str} {s:Sig} {es:List Expr} {p pos:Pos} {c:CE} (ok:Cok C X) (hs:(x,s)∈C.fs) (hg:Gl X x) (hn:Qx x=true) (hd:(es.getLast?.map JW).getD false=true) (h:Ya r C Γ s es=some c):PE X (.Call (.Name x p) es [] pos) (tE X.K Γ c.o c.Γ c.js c.f):=by
  obtain ⟨c1,e1,h⟩:=bind_some' h;split at h
  · rename_i hw;simp only [jh,ka,beq_iff_eq] at hw;cases h;obtain ⟨a1,a2,a3,a4,_⟩:=R.A ok e1;obtain ⟨nd,hio,j,kk,hj,hrm,F⟩:=ok.fs x s hs;obtain ⟨l,es0,rfl⟩:∃ l es0,es=es0++[l]:=by
      cases q:es.getLast? with
      | none=>rw [q] at hd;cases hd
      | some l=>obtain ⟨ys,e⟩:=List.getLast?_eq_some_iff.mp q;exact ⟨l,ys,e⟩
    rw [List.getLast?_concat] at hd;obtain ⟨ps,rfl⟩:=QI hd;rw [List.dropLast_concat] at e1 a1 a3 a4;have pa:=R.B ok e1 (Kk (X:=X) (pos:=ps)) rfl;have run:∀ {σ H Q},tE X.K Γ s.ro c1.Γ (c1.js++slots (c1.as++[Ar.rf c1.Γ.length]) s.io) (Jd s c1.as c1.Γ.length) σ H Q->cz (Nm X.K s) (RW (BP X.K c1.as) RZ) σ H Q:=fun h=>Qh a2 hw.1.1 (by rw [<- hw.1.2];simp [a3]) nd hio (fun i hi=>Az (hw.2 i hi)) h
    have ns:(es0++[Expr.Dict [] [] ps]).all Aq=true:=by rw [List.all_append,a4];rfl
    cases es0 with
    | nil=>exact PE.imp (Kj F hrm hj hg pa (Bu hn).1 (AF rfl) rfl) fun σ H Q h=>run h
    | cons e es =>
      rw [ly,kr,jh] at ns;exact PE.imp (Kj F hrm hj hg pa (Bu hn).1 (AF ns.1) (BD ns.2)) fun σ H Q h=>run h
  · cases h
section
variable {K:W.Frag} {g:G} {H H':Hp} {Γ Γ1 Γ':Gm} {m:M} {σ:St} {P:Fp} {as:List Ar} {js js0:List Nat} {f0:Ev Dv}
theorem AL.lift {d:Dv} {v:V} (l1:m.length=Γ.length) (l2:σ.length=Γ.length):∀ {as:List Ar} {ds:List Dv} {vs:List V},AL K g H Γ m σ as ds vs->AL K g H (Γ++[some 1]) (m++[d]) (σ++[some v]) as ds vs
 | [],ds,vs,h=>by unfold AL at h ⊢;exact h
 | .ev _ _ _ f::as,ds,vs,h=>by
  unfold AL at h ⊢;obtain ⟨d0,v0,ds',vs',e1,e2,h1,h2⟩:=h;exact ⟨d0,v0,ds',vs',e1,e2,h1,AL.lift l1 l2 h2⟩
 | .rf i::as,ds,vs,h=>by
  unfold AL at h ⊢;obtain ⟨v0,ds',vs',e1,e2,h1,⟨o,ho,h2⟩,h3⟩:=h;have w:=(jo.mp h2).1;refine ⟨v0,ds',vs',?_,e2,by rw [kK (by omega)];exact h1,⟨o,ho,by rw [kK w];exact h2⟩,AL.lift l1 l2 h3⟩;have:(m++[d]).at i=m.at i:=by unfold M.at;rw [kL,kL,kK (by omega)]
  rw [this];exact e1
def OU (s:Sig) (f0:Ev Dv) (as:List Ar) (N:Nat):Ev Dv:=fun R m k=>f0 R m fun d0 m0=>AK as R m0 fun ds m1=>s.cps R (d0::ds) fun d bs=>k d (EB (slots (Ar.rf N::as) s.io) bs m1)
theorem Qg {s:Sig} (c:AA Γ1 as Γ' js) (hs:VT (Ar.rf Γ'.length::as) s.io=true) (hn:(Ar.rf Γ'.length::as).length=s.ps.length) (nd:s.io.Nodup) (hio:∀ i∈s.io,i < s.ps.length) (hl:∀ i∈slots (Ar.rf Γ'.length::as) s.io,(Γ'++[some 1])[i]?=some (some 1)) {Q:VK}
    (h:tE K Γ s.ro Γ' (js0++(js++slots (Ar.rf Γ'.length::as) s.io)) (OU s f0 as Γ'.length) σ H Q):tE K Γ 1 Γ1 js0 f0 σ H fun v0 H0=>BP K as σ H0 fun vs H1=>Nm K s (v0::vs) H1 Q E0:=by
  obtain ⟨g,m,P,r,R,k,res,e,q⟩:=h;refine ⟨g,m,P,r,R,_,res,e,fun d0 m0 g0 P0 Pv0 v0 H0 hk ag0 s0 rv0 r0 n0=>?_⟩;refine AI as r0 c hk fun ds m1 g1 P1 vs H1 hk1 ag1 st ar r1=>?_
  rw [s.eq] at hk1;obtain ⟨⟨d,bs⟩,e1,e2⟩:=bind_some' hk1;have rv1:=rv0.held st r0.fpOk fun a q z=>n0 a z q
  have n1:=st.out rv0.fpOk fun a q z=>n0 a z q
  obtain ⟨l1,l2⟩:m1.length=Γ'.length/\σ.length=Γ'.length:=by obtain ⟨_,F,h,_⟩:=r1;exact ⟨h.l1,h.l2⟩
  have ar':AL K g1 H1 (Γ'++[some 1]) (m1++[d0]) (σ++[some v0]) (Ar.rf Γ'.length::as) (d0::ds) (v0::vs):=by
    unfold AL;refine ⟨v0,ds,vs,?_,rfl,by rw [<- l2,kS (ju _),lF];rfl,⟨1,by decide,by rw [kS (ju _),lF];rfl⟩,ar.lift l1 l2⟩;have:(m1++[d0]).at Γ'.length=d0:=by unfold M.at;rw [kL,<- l1,kS (ju _),lF];rfl
    rw [this]
  refine Fg hs hn nd hio hl (r1.snoc rv1 fun a q z=>n1 a z q) ar' e1 fun g2 P2 Pw v H2 st2 rv rz n=>?_
  obtain ⟨d',ed⟩:=Cn (slots (Ar.rf Γ'.length::as) s.io) bs m1 d0;rw [ed] at rz;obtain ⟨P3,r3,hP⟩:=rz.init;exact q d _ g2 P3 Pw v H2 e2 (ag0.trans (ag1.trans (Gr _ bs m1))) (s0.trans ((st.frame (R:=Pv0)).trans (st2.less fun a z=>z.elim (fun z=>.inl (hP a z)) .inr))) rv r3 fun a z w=>n a (hP a z) w
end
noncomputable def iA:Expr->Bool
 | .Call ..=>true
 | _=>false
def UK (r:Rec) (C:Cf) (Γ:Gm) (s:Sig) (es:List Expr):Option CE:=match es with
 | []=>none
 | e::es=>if Aq e then (r.E C Γ e).bind fun c0=>if c0.o == 1 then (r.A C c0.Γ ((List.range es.length).map fun i=>s.io.contains (i+1)) es).bind fun c=>if VT (Ar.rf c.Γ.length::c.as) s.io && (es.length+1 == s.ps.length) && (slots (Ar.rf c.Γ.length::c.as) s.io).all (fun i=>(c.Γ++[some 1]).getD i none == some 1) then some ⟨s.ro,c.Γ,c0.js++(c.js++slots (Ar.rf c.Γ.length::c.as) s.io),OU s c0.f c.as c.Γ.length⟩ else none else none else none
theorem UJ {r:Rec} (R:OkR r) {C:Cf} {X:Cx} {Γ:Gm} {x:Str} {s:Sig} {es:List Expr} {p pos:Pos} {c:CE} (ok:Cok C X) (hs:(x,s)∈C.fs) (hg:Gl X x) (hn:Qx x=true) (h:UK r C Γ s es=some c):PE X (.Call (.Name x p) es [] pos) (tE X.K Γ c.o c.Γ c.js c.f):=by
 cases es with
 | nil=>cases h
 | cons e es =>
  unfold UK at h;simp only at h;split at h
  ·rename_i ns;obtain ⟨c0,e0,h⟩:=bind_some' h;split at h
   ·rename_i ho;obtain ⟨c1,e1,h⟩:=bind_some' h;split at h
    ·rename_i hw;simp only [jh,ka,beq_iff_eq] at hw;cases h;have b0:=R.E ok e0;rw [beq_iff_eq.mp ho] at b0;obtain ⟨a1,a2,a3,a4,_⟩:=R.A ok e1;obtain ⟨nd,hio,j,kk,hj,hrm,F⟩:=ok.fs x s hs;exact PE.imp (Kj F hrm hj hg (DB b0 a1 (AF ns)) (Bu hn).1 (AF ns) (BD a4)) fun σ H Q h=>Qg a2 hw.1.1 (by rw [<- hw.1.2];simp [a3]) nd hio (fun i hi=>Az (hw.2 i hi)) h
    ·cases h
   ·cases h
  ·cases h
def ba (r:Rec) (C:Cf) (Γ:Gm) (s:Sig) (es:List Expr):Option CE:=if s.nb && s.io.isEmpty then YZ r C Γ s es else if (es.getLast?.map JW).getD false && s.io.contains (es.length - 1) then Ya r C Γ s es else if (es.head?.map iA).getD false && s.io.contains 0 then UK r C Γ s es else Yb r C Γ s es
theorem XB {r:Rec} (R:OkR r) {C:Cf} {X:Cx} {Γ:Gm} {x:Str} {s:Sig} {es:List Expr} {p pos:Pos} {c:CE} (ok:Cok C X) (hs:(x,s)∈C.fs) (hg:Gl X x) (hn:Qx x=true) (h:ba r C Γ s es=some c):PE X (.Call (.Name x p) es [] pos) (tE X.K Γ c.o c.Γ c.js c.f):=by
 unfold ba at h;split at h
 ·rename_i z;rw [jh,List.isEmpty_iff] at z;exact UI R ok hs z.2 hg hn h
 ·split at h
  ·rename_i z;rw [jh] at z;exact UL R ok hs hg hn z.1 h
  ·split at h
   ·exact UJ R ok hs hg hn h
   ·exact UM R ok hs hg hn h
def UH (r:Rec) (C:Cf) (Γ:Gm) (en:CallE) (es:List Expr):Option CE:=if es.isEmpty then none else (r.A C Γ (List.replicate es.length true) es).bind fun c=>some ⟨en.o,c.Γ,c.js,Cc en.f (AK c.as)⟩
theorem UG {r:Rec} (R:OkR r) {C:Cf} {X:Cx} {Γ:Gm} {en:CallE} {es:List Expr} {p pos:Pos} {c:CE} (ok:Cok C X) (hb:en.x∈C.bl) (hg:Gl X en.x) (hn:Qx en.x=true) (h:UH r C Γ en es=some c):PE X (.Call (.Name en.x p) es [] pos) (tE X.K Γ c.o c.Γ c.js c.f):=by
 cases es with
 | nil=>cases h
 | cons e es =>
  unfold UH at h;rw [if_neg (by simp)] at h;obtain ⟨c1,e1,h⟩:=bind_some' h;cases h;obtain ⟨a1,a2,a3,a4,_⟩:=R.A ok e1;rw [kr,jh] at a4;obtain ⟨rr,q1,q2⟩:=en.ok X ok.gx;have n:=Bu hn;rcases q2 with ⟨id,q2,q3⟩ | ⟨T,q2,q3⟩
  ·exact PE.imp (Sd q2 hg (ok.bl _ hb) q3 a1 n.2.2 n.1 (AF a4.1) (BD a4.2)) fun _ _ _ h=>BK q1 a2 h
  ·exact PE.imp (Pd q2 hg (ok.bl _ hb) q3 a1 n.2.2 n.1 (AF a4.1) (BD a4.2)) fun _ _ _ h=>BK q1 a2 h
noncomputable def Ua:Expr->Bool
 | .Call _ _ _ _=>false
 | _=>true
theorem Eu {o:Expr} {name:Str} {env:Env} {w:Sem Value} (h:Ua o=true):attributeBase o name env w=w:=by
 cases o<;>first | rfl | (cases h)
def bf (r:Rec) (C:Cf) (Γ:Gm) (en:MutE) (i:Nat) (es:List Expr):Option CE:=if es.length < 29 && (Γ.getD i none).isSome then (r.A C Γ [] es).bind fun c=>if c.Γ.getD i none == some 1 then some ⟨0,c.Γ,c.js++[i],TR en.T i en.p (AK c.as)⟩ else none else none
theorem Mk {e:Expr} {es:List Expr} {env:Env} {pos:Pos} (h:(e::es).all Aq=true) (hl:(e::es).length < 29):((backTo pos (starEach (e::es) env)).all (fun x=>!x.1) && (backToKw pos (keywordEach [] env)).all (fun x=>x.1.isSome)
      && decide ((e::es).length+([]:List Keyword).length+(if ([]:List Keyword).isEmpty then 0 else 1) < 30))=true:=by
  rw [cI h];show (true && true && decide _)=true;simp only [ku,nA,decide_eq_true_eq,kq,List.isEmpty_nil,if_true];omega
theorem XD {r:Rec} (R:OkR r) {C:Cf} {X:Cx} {Γ:Gm} {en:MutE} {i:Nat} {o:Expr} {es:List Expr} {apos pos:Pos} {c:CE} (ok:Cok C X) (hi:Sk C o=some i) (hline:(apos.endLine == pos.line)=true) (h:bf r C Γ en i es=some c):PE X (.Call (.Attribute o en.x apos) es [] pos) (tE X.K Γ c.o c.Γ c.js c.f):=by
 unfold bf at h;split at h
 ·rename_i h0;simp only [jh,decide_eq_true_eq] at h0;obtain ⟨c1,e1,h⟩:=bind_some' h;split at h
  ·rename_i h1;cases h;obtain ⟨a1,a2,a3,a4,a5⟩:=R.A ok e1;obtain ⟨id,rr,q1,q2,q3,q4,q5⟩:=en.ok X ok.gx;have ho:=Cb ok hi;have hbase:attributeBase o en.x X.env (eval o X.env)=eval o X.env:=Eu (by cases o<;>first | rfl | (cases hi));have run:∀ {σ H Q},tE X.K Γ 0 c1.Γ (c1.js++[i]) (TR en.T i en.p (AK c1.as)) σ H Q->dG X.K en.T rr (FB i) (BP X.K c1.as) σ H Q:=fun h=>WL q5 en.hT a2 (a5 rfl) (getD_some h0.2) (Az (beq_iff_eq.mp h1)) h
   cases es with
   | nil =>
    have e:c1.as=[]:=kl a3;refine PE.imp (Sf q1 q2 q3 q4 ho hbase hline) fun σ H Q h=>?_
    have:=run h;rw [e] at this;exact this
   | cons e es =>
    have a4':=a4;rw [kr,jh] at a4;exact PE.imp (YC q1 q2 q3 q4 ho a1 hbase (Mk a4' h0.1) hline (AF a4.1) (BD a4.2)) fun σ H Q h=>run h
  ·cases h
 ·cases h
def fv (r:Rec) (C:Cf) (Γ:Gm) (en:MethE) (o:Expr) (es:List Expr):Option CE:=if es.length < 29 && Ua o then (Dd r C Γ true o).bind fun x=>(r.A C x.Γ (List.replicate es.length true) es).bind fun c=>if DI x.a c.Γ then some ⟨en.o,c.Γ,x.js++c.js,TU en.T x.a c.as en.f⟩ else none else none
theorem NG {r:Rec} (R:OkR r) {C:Cf} {X:Cx} {Γ:Gm} {en:MethE} {o:Expr} {es:List Expr} {apos pos:Pos} {c:CE} (ok:Cok C X) (hline:(apos.endLine == pos.line)=true) (hn:en.n=es.length) (h:fv r C Γ en o es=some c):PE X (.Call (.Attribute o en.x apos) es [] pos) (tE X.K Γ c.o c.Γ c.js c.f):=by
 unfold fv at h;split at h
 ·rename_i h0;simp only [jh,decide_eq_true_eq] at h0;obtain ⟨x,e0,h⟩:=bind_some' h;obtain ⟨c1,e1,h⟩:=bind_some' h;split at h
  ·rename_i h1;cases h;obtain ⟨o1,_,o2⟩:=Bc R ok e0;obtain ⟨a1,a2,a3,a4,a5⟩:=R.A ok e1;obtain ⟨id,rr,q1,q2,q3,q4,q5⟩:=en.ok X ok.gx;have hbase:attributeBase o en.x X.env (eval o X.env)=eval o X.env:=Eu h0.2;rcases en.hT with hT | ⟨hT,hT1⟩
   ·have run:∀ {σ H Q},tE X.K Γ en.o c1.Γ (x.js++c1.js) (TU en.T x.a c1.as en.f) σ H Q->dG X.K en.T rr (FD X.K x.a) (BP X.K c1.as) σ H Q:=fun h=>aU q5 hT (o2 a2 h1) h
    cases es with
    | nil =>
     have e:c1.as=[]:=kl a3;refine PE.imp (Sf q1 q2 q3 q4 o1 hbase hline) fun σ H Q h=>?_
     have:=run h;rw [e] at this;exact this
    | cons e es =>
     have a4':=a4;rw [kr,jh] at a4;exact PE.imp (YC q1 q2 q3 q4 o1 a1 hbase (Mk a4' h0.1) hline (AF a4.1) (BD a4.2)) fun σ H Q h=>run h
   ·have run:∀ {σ H Q},tE X.K Γ en.o c1.Γ (x.js++c1.js) (TU en.T x.a c1.as en.f) σ H Q->gr rr (FD X.K x.a) (BP X.K c1.as) σ H Q:=fun h=>WN q5 (o2 a2 h1) (by rw [hT] at h;exact h)
    rw [hT] at q1 q2;cases es with
    | nil=>rw [hT1] at hn;cases hn
    | cons e es =>
     have a4':=a4;rw [kr,jh] at a4;exact PE.imp (eT q1 q2 q3 q4 o1 a1 hbase (Mk a4' h0.1) hline (AF a4.1) (BD a4.2)) fun σ H Q h=>run h
  ·cases h
 ·cases h
def bT (c1 c2:CE):Option CE:=if c1.o == c2.o && c1.Γ == c2.Γ && c1.js == c2.js then some ⟨c1.o,c1.Γ,c1.js,Ml (Av c1.Γ c1.js) (evOr c1.f c2.f)⟩ else none
theorem Wu {X:Cx} {Γ:Gm} {e:Expr} {c1 c2 c:CE} (h1:PE X e (tE X.K Γ c1.o c1.Γ c1.js c1.f)) (h2:PE X e (tE X.K Γ c2.o c2.Γ c2.js c2.f)) (h:bT c1 c2=some c):PE X e (tE X.K Γ c.o c.Γ c.js c.f):=by
 unfold bT at h;split at h
 ·rename_i h0;simp only [jh,beq_iff_eq] at h0;obtain ⟨⟨e1,e2⟩,e3⟩:=h0;cases h;rw [<- e1,<- e2,<- e3] at h2;intro pins s σ H Q I q;rcases ZA (GN (fun i o z=>BM z) (fun i z=>Au z) q) with q | q
  ·exact h1 pins s σ H Q I q
  ·exact h2 pins s σ H Q I q
 ·cases h
def iR (r:Rec) (C:Cf) (Γ:Gm) (o:Expr) (es:List Expr):List MethE->Option CE
 | []=>none
 | [en]=>fv r C Γ en o es
 | en::en2::_=>(fv r C Γ en o es).bind fun c1=>(fv r C Γ en2 o es).bind fun c2=>bT c1 c2
def cCall (r:Rec) (C:Cf) (Γ:Gm) (f:Expr) (es:List Expr) (pos:Pos):Option CE:=match f with
  | .Name x _=>if GD C.sc x && Qx x then (match C.fs.find? fun p=>p.1 == x with
      | some p=>ba r C Γ p.2 es
      | none=>(C.T.calls.find? fun e=>e.x == x && e.n == es.length).bind fun en=>if C.bl.contains x then UH r C Γ en es else none) else none
  | .Attribute o name apos=>if apos.endLine == pos.line then (match C.T.muts.find? fun e=>e.x == name && e.n == es.length with
      | some en=>(Sk C o).bind fun i=>bf r C Γ en i es
      | none=>iR r C Γ o es (C.T.meths.filter fun e=>e.x == name && e.n == es.length)) else none
  | _=>none
theorem UQ {r:Rec} (R:OkR r) {C:Cf} {X:Cx} {Γ:Gm} {f:Expr} {es:List Expr} {pos:Pos} {c:CE} (ok:Cok C X) (h:cCall r C Γ f es pos=some c):PE X (.Call f es [] pos) (tE X.K Γ c.o c.Γ c.js c.f):=by
  cases f with
  | Name x p =>
    simp only [cCall] at h;split at h
    · rename_i h0;rw [jh] at h0;split at h
      · rename_i p' hp;have e:p'.1=x:=by simpa using kz hp
        have hm:=mw hp;exact XB R ok (s:=p'.2) (by rw [<- e];exact hm) (BN ok h0.1) h0.2 h
      · replace h:=bind_some' h;obtain ⟨en,e1,h⟩:=h;split at h
        · rename_i hb;have e:=kz e1;simp only [jh,beq_iff_eq] at e;obtain ⟨rfl,_⟩:=e;exact UG R ok (jy.mp hb) (BN ok h0.1) h0.2 h
        · cases h
    · cases h
  | Attribute o name apos =>
    simp only [cCall] at h;split at h
    · rename_i hl;split at h
      · rename_i en he;have e:=kz he;simp only [jh,beq_iff_eq] at e;obtain ⟨rfl,_⟩:=e;obtain ⟨i,e1,h⟩:=bind_some' h;exact XD R ok e1 hl h
      · have hm:∀ en∈C.T.meths.filter fun e=>e.x == name && e.n == es.length,en.x=name/\en.n=es.length:=fun en he=>by
          have:=(lg.mp he).2;simp only [jh,beq_iff_eq] at this;exact this
        revert h hm
        generalize (C.T.meths.filter fun e=>e.x == name && e.n == es.length)=L;intro h hm
        match L,hm,h with
        | [],hm,h=>cases h
        | [en],hm,h =>
          obtain ⟨rfl,e2⟩:=hm en kA;exact NG R ok hl e2 h
        | en::en2::_,hm,h =>
          obtain ⟨c1,e1,h⟩:=bind_some' h;obtain ⟨c2,e2,h⟩:=bind_some' h;obtain ⟨q1,q2⟩:=hm en kA;obtain ⟨q3,q4⟩:=hm en2 (kB _ kA);have p1:=NG (pos:=pos) (apos:=apos) R ok hl q2 e1;have p2:=NG (pos:=pos) (apos:=apos) R ok hl q4 e2;rw [q1] at p1;rw [q3] at p2;exact Wu p1 p2 h
    · cases h
  | _=>cases h
def Jo (C:Cf) (x:Str):Option Nat:=if Qx x then (match C.sc.names.lookup x with
 | some .local=>Cu C.N x
 | some .cell=>if C.fn x then Cu C.N x else none
 | _=>none) else none
theorem GQ {C:Cf} {X:Cx} {x:Str} {i:Nat} (ok:Cok C X) (h:Jo C x=some i):X.N[i]?=some x/\Loc X.env.scope x/\(X.fn x=true\/X.env.scope.names.lookup x=some .local):=by
 unfold Jo at h;split at h
 ·split at h
  ·rename_i e;rw [ok.N,ok.sc];exact ⟨Bg h,.inl e,.inr e⟩
  ·rename_i e;split at h
   ·rename_i hf;rw [ok.N,ok.sc];exact ⟨Bg h,.inr e,.inl (ok.fn x hf)⟩
   ·cases h
  ·cases h
 ·cases h
theorem Oo {C:Cf} {X:Cx} {x:Str} {i:Nat} {pos:Pos} (ok:Cok C X) (h:Jo C x=some i):PG X (.Name x pos) (DX i):=by
 obtain ⟨h1,h2,h3⟩:=GQ ok h;exact Vt ok.nd h1 h2 h3
def ck (C:Cf):List Expr->Option (List Nat)
 | []=>some []
 | .Name x _::es=>(Jo C x).bind fun i=>(ck C es).bind fun J=>some (i::J)
 | _::_=>none
theorem RQ {C:Cf} {X:Cx} (ok:Cok C X):∀ {es:List Expr} {J:List Nat},ck C es=some J->cX X es (EN J)/\(assignEach es X.env).length=J.length/\(assignEach es X.env).findIdx? (·.1)=none
 | [],J,h=>by cases h;exact ⟨OD,rfl,rfl⟩
 | e::es,J,h=>by
  cases e with
  | Name x pos =>
   obtain ⟨i,e1,h⟩:=bind_some' (show (Jo C x).bind (fun i=>(ck C es).bind fun J=>some (i::J))=some J from h);obtain ⟨J',e2,h⟩:=bind_some' h;cases h;obtain ⟨h1,h2,h3⟩:=RQ ok e2;refine ⟨Gw (Oo ok e1) h1 rfl,?_,?_⟩
   ·show (assignEach es X.env).length+1=_;rw [h2];rfl
   ·show List.findIdx? (·.1) ((false,assign (.Name x pos) X.env)::assignEach es X.env)=none;rw [List.findIdx?_cons,h3];rfl
  | _=>cases h
structure CG:Type 1 where
 J:List Nat
 f:Tg
 g:W.Frag->TG
 Γ:Gm->Gm
def cG (C:Cf) (e:Expr):Option CG:=match e with
 | .Name x _=>(Jo C x).map fun i=>⟨[i],cq i,fun _=>DX i,fun Γ=>Γ.set i (some 0)⟩
 | .Tuple es _ _=>(ck C es).map fun J=>⟨J,iz J,fun K=>fK K J.length (EN J),fun Γ=>ZQ Γ J (some 0)⟩
 | _=>none
theorem GC {C:Cf} {X:Cx} {e:Expr} {c:CG} (ok:Cok C X) (h:cG C e=some c):PG X e (c.g X.K)/\(∀ js,(∀ i∈c.J,i∈js)->RB js (c.g X.K))/\∀ {K Γ},c.J.all (fun i=>decide (i < Γ.length))=true->NT K Γ (c.Γ Γ) c.J (c.g K) c.f:=by
 cases e with
 | Name x pos =>
  cases q:Jo C x with
  | none=>simp only [cG,q] at h;cases h
  | some i =>
   simp only [cG,q] at h;cases h;exact ⟨Oo ok q,fun js hj=>TC (hj i (mK _)),fun h=>VD (by simpa using h)⟩
 | Tuple es k pos =>
  cases q:ck C es with
  | none=>simp only [cG,q] at h;cases h
  | some J =>
   simp only [cG,q] at h;cases h;obtain ⟨h1,h2,h3⟩:=RQ ok q;exact ⟨PG.or (SY ok.calm h1 h2 h3) (Zt ok.calm h1 h2 h3),fun js hj=>ay (WX (EM J hj)) (WY (EM J hj)),fun h=>RS (by simpa using h)⟩
 | _=>cases h
def iQ (r:Rec) (C:Cf) (Γ:Gm) (en:SrcE) (es:List Expr):Option CI:=(r.A C Γ [] es).bind fun c=>some ⟨c.Γ,c.js,YR en.f (AK c.as)⟩
def bX (r:Rec) (C:Cf) (Γ:Gm) (e:Expr):Option CI:=(r.E C Γ e).bind fun c=>some ⟨c.Γ,c.js,OR c.f⟩
def Rh (r:Rec) (C:Cf) (Γ:Gm) (tt:Bool) (e:Expr):Option CI:=match e with
  | .Call (.Name x _) es [] _=>(match C.T.srcs.find? fun en=>en.x == x && en.n == es.length && (!en.tt || tt) with
      | some en=>if GD C.sc x && C.bl.contains x && (C.fs.find? fun p=>p.1 == x).isNone then iQ r C Γ en es else none
      | none=>bX r C Γ e)
  | e=>bX r C Γ e
theorem Rg {r:Rec} (R:OkR r) {C:Cf} {X:Cx} {Γ:Gm} {e:Expr} {c:CI} (tg:Expr) (ok:Cok C X) (h:Rh r C Γ (JV tg) e=some c):PI X tg e (tI X.K Γ c.Γ c.js c.f):=by
 have seq:bX r C Γ e=some c->PI X tg e (tI X.K Γ c.Γ c.js c.f):=fun h=>by
  obtain ⟨c1,e1,h⟩:=bind_some' h;cases h;exact fF (DA (R.E ok e1))
 unfold Rh at h;split at h
 ·rename_i x p es pos;split at h
  ·rename_i en he;split at h
   ·rename_i h0;simp only [jh] at h0;have e:=kz he;simp only [jh,beq_iff_eq] at e;obtain ⟨⟨rfl,hn⟩,htt⟩:=e;obtain ⟨c1,e1,h⟩:=bind_some' h;cases h;obtain ⟨a1,a2,a3,a4,a5⟩:=R.A ok e1;obtain ⟨rr,q1,q2⟩:=en.ok X ok.gx;exact PI.imp (q2 tg es p pos _ (fun z=>by rw [z] at htt;simpa using htt) hn.symm a4 (BN ok h0.1.1) (ok.bl _ (jy.mp h0.1.2)) a1) fun _ _ _ h=>VJ q1 a2 (a5 rfl) h
   ·cases h
  ·exact seq h
 ·exact seq h
def Gk (scope sc:Scope):Scope:={ scope with names:=scope.names.map fun (n,k)=>if (k == .free && sc.kind == .function && sc.names.lookup n == some .cell) then (n,.cell) else (n,k) }
def Cf.inner (C:Cf) (scope:Scope):Cf:={ C with sc:=Gk scope C.sc,fn:=AM scope }
theorem Cok.inner {C:Cf} {X:Cx} (ok:Cok C X) (scope:Scope) (cl:List (Str×Addr)) (a:Addr) (s:Shared) (H:Hp) (fp:List Addr):Cok (C.inner scope) (X.inner scope cl a s H fp) where
 N:=ok.N
 sc:=by
  show relabel scope X.env=Gk scope C.sc;unfold relabel Gk Env.kindOf;rw [ok.sc]
 nd:=ok.nd
 calm:=ok.calm
 fn:=fun _ h=>h
 room:=ok.room
 fs:=ok.fs
 cs:=ok.cs
 bl:=ok.bl
 xe:=rfl
noncomputable def MU (N:List Str) (scope:Scope):List Nat:=(List.range N.length).filter fun i=>match N[i]? with
 | some x=>(match scope.names.lookup x with | some .local=>true | some .cell=>true | _=>false)
 | none=>false
structure CC:Type 1 where
 t:CG
 c:CT
 e:CE
def KB (r:Rec) (C:Cf) (Γl:Gm) (tg:CG) (ifs:List Expr) (elt:Expr):Option CC:=if tg.J.all (fun i=>decide (i < Γl.length)) then (match ifs with
 | []=>some (CT.mk (tg.Γ Γl) [] Da)
 | [c]=>r.T C (tg.Γ Γl) c
 | _=>none).bind fun c=>(r.E C c.Γ elt).bind fun e=>some ⟨tg,c,e⟩ else none
def bJ (r:Rec) (C:Cf) (tg:CG) (ifs:List Expr) (elt:Expr):Nat->Gm->Option (Gm×CC)
 | 0,_=>none
 | n+1,Γl=>(KB r C Γl tg ifs elt).bind fun x=>if BY Γl x.c.Γ && BY Γl x.e.Γ then some (Γl,x) else bJ r C tg ifs elt n (Be Γl (Be x.c.Γ x.e.Γ))
def Ik (r:Rec) (C:Cf) (Γ:Gm) (elt:Expr) (gens:List Comprehension) (scope:Scope):Option CE:=match gens with
  | [⟨tg,iter,ifs,0⟩]=>(match iter with | .Set _ _ _=>none | _=>r.I C Γ (JV tg) iter).bind fun s=>let jx:=MU C.N scope;if innerOk C.N C.sc scope jx then (cG (C.inner scope) tg).bind fun t=>(bJ r (C.inner scope) t ifs elt 4 (Le jx s.Γ)).bind fun p =>
      let J:=Av p.1 (t.J++(p.2.c.js++p.2.e.js))
      if BY p.1 (Le jx s.Γ) && t.J.all jx.contains then some ⟨1,KR jx s.Γ p.1,s.js++(t.J++(p.2.c.js++p.2.e.js)),match J,ifs with
        | [],[]=>TV s.f t.f p.2.e.f
        | [],_=>TX s.f t.f p.2.c.f p.2.e.f
        | J,[]=>OT s.f t.f J p.2.e.f
        | J,_=>OS s.f t.f J p.2.c.f p.2.e.f⟩ else none else none
  | _=>none
theorem Jb {r:Rec} {C:Cf} {tg:CG} {ifs:List Expr} {elt:Expr}:∀ {n:Nat} {Γ:Gm} {p:Gm×CC},bJ r C tg ifs elt n Γ=some p->KB r C p.1 tg ifs elt=some p.2/\BY p.1 p.2.c.Γ=true/\BY p.1 p.2.e.Γ=true
 | 0,_,_,h=>by cases h
 | n+1,Γ,p,h=>by
  obtain ⟨x,e1,h⟩:=bind_some' (show (KB r C Γ tg ifs elt).bind _=some p from h);split at h
  ·rename_i hw;rw [jh] at hw;cases h;exact ⟨e1,hw.1,hw.2⟩
  ·exact Jb h
theorem Sg {X:Cx} {Γ:Gm}:Uv X [] (tT X.K Γ Γ [] Da):=fun pins s σ H Q I h=>by
 obtain ⟨g,m,P,r,R,k,res,e,q⟩:=h;exact wpAny_tests_nil ⟨H,I,q true m g P H e Bd.refl Step.refl r⟩
theorem LZ {r:Rec} (R:OkR r) {C:Cf} {X:Cx} {Γ:Gm} {elt:Expr} {gens:List Comprehension} {scope:Scope} {pos:Pos} {c:CE} (ok:Cok C X) (h:Ik r C Γ elt gens scope=some c):PE X (.ListComp elt gens scope pos) (tE X.K Γ c.o c.Γ c.js c.f):=by
 unfold Ik at h;split at h
 ·rename_i tg iter ifs;obtain ⟨s,e1,h⟩:=bind_some' h;simp only at h;split at h
  ·rename_i hin;obtain ⟨t,e2,h⟩:=bind_some' h;obtain ⟨p,e3,h⟩:=bind_some' h;split at h
   ·rename_i hw;rw [jh] at hw;cases h;obtain ⟨f1,f2,f3⟩:=Jb e3;unfold KB at f1;split at f1
    ·rename_i hj;obtain ⟨ct,f1a,f1⟩:=bind_some' f1;obtain ⟨ce,f1b,f1⟩:=bind_some' f1;have ep:p.2=⟨t,ct,ce⟩:=(Option.some.inj f1).symm;have hs:∀ x,foldedSetIterable iter X.env x=pure x:=fun x=>by cases iter<;>first | rfl | (cases e1)
     have hI:r.I C Γ (JV tg) iter=some s:=by cases iter<;>first | exact e1 | (cases e1)
     have hi:=R.I tg ok hI;have okI:=fun cl a s H fp=>ok.inner scope cl a s H fp
     have hg:∀ cl a s H fp,PG (X.inner scope cl a s H fp) tg (t.g X.K):=fun cl a s H fp=>(GC (okI cl a s H fp) e2).1
     have hsx:∀ i∈t.J,i∈MU C.N scope:=fun i hi=>jy.mp ((ka.mp hw.2) i hi)
     have hgo:RB (MU C.N scope) (t.g X.K):=(GC (okI [] 0 X.s₀ X.H₀ []) e2).2.1 _ hsx;have ht:NT X.K p.1 (t.Γ p.1) t.J (t.g X.K) t.f:=(GC (okI [] 0 X.s₀ X.H₀ []) e2).2.2 hj;have he:∀ cl a s H fp,PE (X.inner scope cl a s H fp) elt (tE X.K ct.Γ 0 ce.Γ ce.js ce.f):=fun cl a s H fp=>DA (R.E (okI cl a s H fp) f1b)
     have hin':innerOk X.N X.env.scope scope (MU C.N scope)=true:=by rw [ok.N,ok.sc];exact hin
     rw [ep] at f2 f3 ⊢;simp only at f2 f3 ⊢;cases ifs with
     | nil =>
      cases f1a;have hc:∀ cl a s H fp,Uv (X.inner scope cl a s H fp) [] (tT X.K (t.Γ p.1) (t.Γ p.1) [] Da):=fun cl a s H fp=>Sg
      have base:=Kl (pos:=pos) hin' ok.calm hi hg hgo hc he hs;cases hJ:Av p.1 (t.J++([]++ce.js)) with
      | nil=>exact PE.imp base fun σ H Q h=>Kw ht hw.1 f3 f2 hsx hJ.symm h
      | cons j J=>exact PE.imp base fun σ H Q h=>Ih ht hw.1 f3 f2 hsx hJ.symm h
     | cons i1 ifs =>
      cases ifs with
      | nil =>
       have hc:∀ cl a s H fp,Uv (X.inner scope cl a s H fp) [i1] (tT X.K (t.Γ p.1) ct.Γ ct.js ct.f):=fun cl a s H fp=>.one (R.T (okI cl a s H fp) f1a)
       have base:=Kl (pos:=pos) hin' ok.calm hi hg hgo hc he hs;cases hJ:Av p.1 (t.J++(ct.js++ce.js)) with
       | nil=>exact PE.imp base fun σ H Q h=>Kx ht hw.1 f3 f2 hsx hJ.symm h
       | cons j J=>exact PE.imp base fun σ H Q h=>Ig ht hw.1 f3 f2 hsx hJ.symm h
      | cons _ _=>cases f1a
    ·cases f1
   ·cases h
  ·cases h
 ·cases h
end R
namespace Q
open PySem L2
section
end
noncomputable def enumD (k:Nat):List Dt->List Dt
 | []=>[]
 | d::ds=>.tup [.int k,d]::enumD (k+1) ds
theorem enumD_len:∀ (ds:List Dt) (k:Nat),(enumD k ds).length=ds.length
 | [],k=>rfl
 | d::ds,k=>by simp [enumD,enumD_len ds (k+1)]
section
end
section
end
section
end
section
end
section
end
section
end
section
end
section
end
section
end
section
end
section
end
mutual
noncomputable def Dt.nol:Dt->Bool
 | .tup ds=>nols ds
 | .lst _ _=>false
 | .dic _ _=>false
 | .dti _ _=>false
 | .ref _=>false
 | _=>true
noncomputable def nols:List Dt->Bool
 | []=>true
 | d::ds=>d.nol && nols ds
end
section
end
section
end
section
end
end Q
namespace HT
open PySem PyProof.Rows
section
variable {prog:Program} {w:World} {A:Around} {E:Value->Shared->Prop} {s:Shared}
theorem LD {α β:Type} {f g:α->Option β}:∀ {l:List α},(∀ a∈l,f a=g a)->l.filterMap f=l.filterMap g
 | [],_=>rfl
 | a::l,h=>by
  rw [lK,lK,h a kA,LD fun b hb=>h b (kB _ hb)]
theorem Lj (n:Nat):Builtin.Slice.sliceAdjust none none (-1) (n:Int)=((n:Int) - 1,-1):=by
 unfold Builtin.Slice.sliceAdjust;rfl
theorem Kh (n:Nat):Builtin.Slice.slicePlaces ((n:Int) - 1) (-1) (-1)=n:=by
 unfold Builtin.Slice.slicePlaces;have h1:¬ ((-1:Int) > 0):=by omega
 simp only [h1,if_false];have h2:(-(-1:Int))=1:=by decide
 simp only [h2,Int.ediv_one];split<;>omega
theorem PX (xs:Array Value):((List.range xs.size).filterMap fun (m:Nat)=>xs[((xs.size:Int) - 1+(m:Int) * (-1)).toNat]?).toArray=xs.toList.reverse.toArray:=by
 have e:(List.range xs.size).filterMap (fun (m:Nat)=>xs[((xs.size:Int) - 1+(m:Int) * (-1)).toNat]?)=((List.range xs.size).map fun k=>xs.size - 1 - k).filterMap (xs[·]?):=by
  rw [ma];refine LD fun m hm=>?_
  have hm:=lT.mp hm;have:((xs.size:Int) - 1+(m:Int) * (-1)).toNat=xs.size - 1 - m:=by omega
  show _=xs[xs.size - 1 - m]?;rw [this]
 rw [e,W.krv_range,List.filterMap_reverse,W.krv_all]
theorem getItem_tuple_back {t sl:Addr} {items:Array Value} {k:Tok} {Q:Value->Shared->Prop} (ht:IsTup s.heap t items) (hs:s.heap.IsSliceOf sl .none .none (.int (-1) k))
    (h:Q (.ref s.heap.objs.size) { s with heap:=s.heap.push { cls:=.type "tuple", data:=.seq items.toList.reverse.toArray } })
    (hsz:items.size<=sizeLine):wpAny (model prog w) A (getItem (.ref t) (.ref sl)) Q E s:=by
  have htake:sizeOk (.seq items.toList.reverse.toArray):=by
    show items.toList.reverse.toArray.size<=sizeLine;rw [jq,lI,Array.length_toList];exact hsz
  obtain ⟨os,hos,hcs,hds⟩:=id hs
  have hTs:s.TypeIs (.ref sl) "slice" := ⟨os,hos,hcs⟩
  unfold getItem
  try with_reducible refine wpAny_holding ?_
  first | refine wpAny_bind (wpAny_pure ?_) | skip
  refine wpAny_bind (wpAny_sequenceKey ht.typeIs (by decide) ?_)
  refine wpAny_bind (wpAny_callSpecial?_slot (name:=Str.ofString "__getitem__") ht.typeIs kb
    (wpAny_call_entry kb ht.typeIs entry_tuple_getitem ?_ (args_tuple_getitem _ _)))
  show wpAny _ _ (Builtin.Tuple.tupleItemsOf (.ref t) >>= _) _ _ s;refine wpAny_bind (tupleItemsOf_ ht ?_);refine wpAny_bind (wpAny_typeOf hTs ?_);rw [if_pos (by decide)];have ap:∀ {A':Around} {Q:Int×Int×Nat->Shared->Prop},Q ((items.size:Int) - 1,-1,items.size) s->wpAny (model prog w) A' (Builtin.Slice.sliceApplied (.ref sl) (pure (items.size:Int))) Q E s:=fun {A' Q} h=>by
    unfold Builtin.Slice.sliceApplied Builtin.Slice.sliceFields;refine wpAny_bind (wpAny_bind (wpAny_field hos hds (x:=.none) rfl (wpAny_bind (wpAny_field hos hds (x:=.none) rfl (wpAny_bind (wpAny_field hos hds (x:=.int (-1) k) rfl (wpAny_pure ?_)))))));refine wpAny_bind (EL (.int (-1) k) ?_);show wpAny _ _ (if ((-1:Int) == 0)=true then _ else _) _ _ s;rw [if_neg (by decide)];refine wpAny_bind (slicePart_none (wpAny_bind (slicePart_none (wpAny_bind (wpAny_pure ?_)))));show wpAny _ _ (match Builtin.Slice.sliceAdjust none none (-1) (items.size:Int) with | (lo,hi)=>pure (lo,(-1:Int),Builtin.Slice.slicePlaces lo hi (-1))) _ _ s;rw [Lj];show wpAny _ _ (pure (((items.size:Int) - 1),(-1:Int),Builtin.Slice.slicePlaces ((items.size:Int) - 1) (-1) (-1))) _ _ s;rw [Kh];exact wpAny_pure h
  refine wpAny_bind (ap ?_);have hno:¬ ((((items.size:Int) - 1) == 0 && (-1:Int) == 1 && items.size == items.size)=true):=by
    intro q;rw [jh,jh] at q;exact absurd q.1.2 (by decide)
  show wpAny _ _ (if (((items.size:Int) - 1) == 0 && (-1:Int) == 1 && items.size == items.size)=true then _ else _) _ _ s;rw [if_neg hno,PX]
  first
    | exact wpAny_bind (m:=Builtin.Tuple.tupleExact _) (wpAny_newObj_type (wpAny_pure ⟨_,rfl,wpAny_pure h⟩) htake)
    | exact wpAny_bind (m:=Builtin.Tuple.tupleExact _) (wpAny_newObj_type (wpAny_bind (wpAny_pure (wpAny_pure ⟨_,rfl,wpAny_pure h⟩))) htake)
    | exact wpAny_bind (wpAny_bind (m:=Builtin.Tuple.tupleExact _) (wpAny_newObj_type (wpAny_pure (wpAny_pure ⟨_,rfl,wpAny_pure h⟩)) htake))
    | exact wpAny_bind (wpAny_bind (m:=Builtin.Tuple.tupleExact _) (wpAny_newObj_type (wpAny_pure ⟨_,rfl,wpAny_pure h⟩) htake))
end
end HT
namespace L2
open PySem PySem.Spec PyProof.Rows
section
variable {X:Cx} {e st:Expr} {te ts:TE} {pos p2:Pos}
abbrev cv (K:W.Frag) (te ts:TE):TE:=fun σ H Q=>te σ H fun x H1=>ts σ H1 fun y H2=>∃ a xs b,x=.ref a/\y=.int (-1)/\Uo K H2 a xs b/\∀ p,H2 p=none->Q (.ref p) (upd H2 p (bif b then .tup xs.reverse else .lst xs.reverse))
theorem Vu (K:W.Frag) (he:PE X e te) (hst:PE X st ts) (hK:X.K=K:=by rfl) (hsub:∀ o i,∃ ops,subscripted (.Slice none none (some st) p2) false o i=operate ops (getItem o i):=by intro o i;exact ⟨_,by with_unfolding_all rfl⟩):PE X (.Subscript e (.Slice none none (some st) p2) pos) (cv K te ts):=by
 subst hK;intro pins s σ H Q I h;refine Subscript_ (Ae (he pins s σ H _ I h) fun v s1 ⟨x,H1,I1,r1,q1⟩=>?_);refine wpAny_Slice ?_;rw [evalPart_none];refine wpAny_pure ?_;refine wpAny_pure ?_;rw [evalPart_some];refine Ae (hst pins s1 σ H1 _ I1 q1) fun vs s3 ⟨y,H3,I3,r3,q3⟩=>?_
 obtain ⟨a,xs,b,rfl,rfl,hx,q⟩:=q3;cases r1;obtain ⟨t,rfl⟩:=r3
 have I4:Inv X pins σ H3 { s3 with heap:=s3.heap.push { cls:=.type "slice", data:=.fields #[.none,.none,.int (-1) t] } }:=I3.kept (t':=s3.toks) fun b ob q=>jm _ q
 show wpAny (model X.prog X.w) X.A (subscriptTail e (.Slice none none (some st) p2) (.ref a) (.ref s3.heap.objs.size)) (EP X pins σ Q) X.xe { s3 with heap:=s3.heap.push { cls:=.type "slice", data:=.fields #[.none,.none,.int (-1) t] } }
 obtain ⟨ops,hops⟩:=hsub (.ref a) (.ref s3.heap.objs.size);cases b with
 | false =>
  obtain ⟨its,r,ht,hz⟩:=I4.list hx;have hlen:=r.length;refine tail_any (ops:=ops) ht.isList.typeIs slot_list_getitem.lookup ?_ hops;refine wpAny_getItem_list_slice ht.isList (Heap.IsSliceOf.new ..) .none .none (.int (-1) t) (by decide) ?_ (by rw [jq];omega);rw [W.krv_pick];rw [show its.toArray.toList.reverse=its.reverse by simp]
  have I5:=I4.laid (t':=s3.toks) (o:=.lst xs.reverse) (h':=(s3.heap.push { cls:=.type "slice", data:=.fields #[.none,.none,.int (-1) t] }).push { cls:=.type "list", data:=.seq its.reverse.toArray }) (fun b ob q=>jm _ q) (ju _) ⟨by rw [lI];exact hz,its.reverse,0,ES r,kD _ rfl⟩
  exact ⟨.ref _,_,I5,rfl,q _ (I4.hok.fresh (ju _))⟩
 | true =>
  obtain ⟨its,r,ht,hz⟩:=I4.tuple hx;have hlen:=r.length;refine tail_any (ops:=ops) ht.typeIs kb.lookup ?_ hops;refine HT.getItem_tuple_back ht (Heap.IsSliceOf.new ..) ?_ (by rw [jq];omega);rw [show its.toArray.toList.reverse=its.reverse by simp]
  have I5:=I4.laid (t':=s3.toks) (o:=.tup xs.reverse) (h':=(s3.heap.push { cls:=.type "slice", data:=.fields #[.none,.none,.int (-1) t] }).push { cls:=.type "tuple", data:=.seq its.reverse.toArray }) (fun b ob q=>jm _ q) (ju _) ⟨by rw [lI];exact hz,its.reverse,ES r,GH.new _ _⟩
  exact ⟨.ref _,_,I5,rfl,q _ (I4.hok.fresh (ju _))⟩
end
end L2
namespace Q
open PySem L2
section
end
end Q
namespace R
open PySem L2
noncomputable def aZ (f:Expr) (es:List Expr):Option (List Expr):=match f,es with
 | .Name x _,[.Call (.Name y _) (a::es) [] _]=>if x == ("list" : Str) && y == ("range" : Str) then some (a::es) else none
 | _,_=>none
theorem Pz {f:Expr} {es as:List Expr} (h:aZ f es=some as):∃ p a es' p2 pos2,f=.Name "list" p/\as=a::es'/\es=[.Call (.Name "range" p2) (a::es') [] pos2]:=by
 unfold aZ at h;split at h
 ·split at h
  ·rename_i e;rw [jh,beq_iff_eq,beq_iff_eq] at e;obtain ⟨rfl,rfl⟩:=e;cases h;exact ⟨_,_,_,_,_,rfl,rfl,rfl⟩
  ·cases h
 ·cases h
def jN (r:Rec) (C:Cf) (Γ:Gm) (as:List Expr):Option CE:=if GD C.sc "list" && GD C.sc "range" && C.bl.contains "list" && C.bl.contains "range" then (r.A C Γ (List.replicate as.length true) as).bind fun c=>some ⟨1,c.Γ,c.js,Cc C.T.lr (AK c.as)⟩ else none
noncomputable def Yx (f:Expr) (es:List Expr):Option (List Expr):=match f,es with
 | .Name x _,[.Call (.Name y _) (a::es) [] _]=>if x == ("tuple" : Str) && y == ("range" : Str) then some (a::es) else none
 | _,_=>none
theorem PB {f:Expr} {es as:List Expr} (h:Yx f es=some as):∃ p a es' p2 pos2,f=.Name "tuple" p/\as=a::es'/\es=[.Call (.Name "range" p2) (a::es') [] pos2]:=by
 unfold Yx at h;split at h
 ·split at h
  ·rename_i e;rw [jh,beq_iff_eq,beq_iff_eq] at e;obtain ⟨rfl,rfl⟩:=e;cases h;exact ⟨_,_,_,_,_,rfl,rfl,rfl⟩
  ·cases h
 ·cases h
def jL (r:Rec) (C:Cf) (Γ:Gm) (as:List Expr):Option CE:=if GD C.sc "tuple" && GD C.sc "range" && C.bl.contains "tuple" && C.bl.contains "range" then (r.A C Γ (List.replicate as.length true) as).bind fun c=>some ⟨1,c.Γ,c.js,Cc C.T.tr (AK c.as)⟩ else none
noncomputable def aY (f:Expr) (es:List Expr):Option Expr:=match f,es with
 | .Name x _,[.Call (.Name y _) [a] [] _]=>if x == ("list" : Str) && y == ("reversed" : Str) then some a else none
 | _,_=>none
theorem Py {f a:Expr} {es:List Expr} (h:aY f es=some a):∃ p p2 pos2,f=.Name "list" p/\es=[.Call (.Name "reversed" p2) [a] [] pos2]:=by
 unfold aY at h;split at h
 ·split at h
  ·rename_i e;rw [jh,beq_iff_eq,beq_iff_eq] at e;obtain ⟨rfl,rfl⟩:=e;cases h;exact ⟨_,_,_,rfl,rfl⟩
  ·cases h
 ·cases h
def iT (r:Rec) (C:Cf) (Γ:Gm) (a:Expr):Option CE:=if GD C.sc "list" && GD C.sc "reversed" && C.bl.contains "list" && C.bl.contains "reversed" && Aq a then (Lg r C Γ a).bind fun x=>some ⟨1,x.Γ,x.js++[],Cc (one C.T.lv) (AK [x.a])⟩ else none
theorem bh {r:Rec} (R:OkR r) {C:Cf} {X:Cx} {Γ:Gm} {a:Expr} {p p2 pos2 pos:Pos} {c:CE} (ok:Cok C X) (h:iT r C Γ a=some c):PE X (.Call (.Name "list" p) [.Call (.Name "reversed" p2) [a] [] pos2] [] pos) (tE X.K Γ c.o c.Γ c.js c.f):=by
 unfold iT at h;split at h
 ·rename_i hg;simp only [jh] at hg;obtain ⟨⟨⟨⟨g1,g2⟩,g3⟩,g4⟩,g5⟩:=hg;obtain ⟨x,e1,h⟩:=bind_some' h;cases h;obtain ⟨a1,a2⟩:=Dw R ok e1;exact PE.imp (MR ok.calm (BN ok g1) (ok.bl _ (jy.mp g3)) (BN ok g2) (ok.bl _ (jy.mp g4)) a1 rfl rfl (AF g5) rfl) fun _ _ _ h=>BK (C.T.lvok X ok.gx) a2 h
 ·cases h
def NJ (r:Rec) (C:Cf) (Γ:Gm) (f:Expr) (es:List Expr) (pos:Pos):Option CE:=match aZ f es with
 | some as=>jN r C Γ as
 | none=>match aY f es with
  | some a=>iT r C Γ a
  | none=>match Yx f es with
   | some as=>jL r C Γ as
   | none=>cCall r C Γ f es pos
theorem Qk {r:Rec} (R:OkR r) {C:Cf} {X:Cx} {Γ:Gm} {f:Expr} {es:List Expr} {pos:Pos} {c:CE} (ok:Cok C X) (h:NJ r C Γ f es pos=some c):PE X (.Call f es [] pos) (tE X.K Γ c.o c.Γ c.js c.f):=by
 unfold NJ at h;split at h
 ·rename_i as e;obtain ⟨p,a,es',p2,pos2,rfl,rfl,rfl⟩:=Pz e;unfold jN at h;split at h
  ·rename_i hg;simp only [jh] at hg;obtain ⟨⟨⟨g1,g2⟩,g3⟩,g4⟩:=hg;obtain ⟨c1,e1,h⟩:=bind_some' h;cases h;obtain ⟨a1,a2,a3,a4,_⟩:=R.A ok e1;rw [kr,jh] at a4;exact PE.imp (MQ ok.calm (BN ok g1) (ok.bl _ (jy.mp g3)) (BN ok g2) (ok.bl _ (jy.mp g4)) a1 rfl rfl (AF a4.1) (BD a4.2)) fun _ _ _ h=>BK (C.T.lrok X ok.gx) a2 h
  ·cases h
 ·split at h
  ·rename_i a e;obtain ⟨p,p2,pos2,rfl,rfl⟩:=Py e;exact bh R ok h
  ·split at h
   ·rename_i as e;obtain ⟨p,a,es',p2,pos2,rfl,rfl,rfl⟩:=PB e;unfold jL at h;split at h
    ·rename_i hg;simp only [jh] at hg;obtain ⟨⟨⟨g1,g2⟩,g3⟩,g4⟩:=hg;obtain ⟨c1,e1,h⟩:=bind_some' h;cases h;obtain ⟨a1,a2,a3,a4,_⟩:=R.A ok e1;rw [kr,jh] at a4;exact PE.imp (Pc ok.calm (BN ok g1) (ok.bl _ (jy.mp g3)) (BN ok g2) (ok.bl _ (jy.mp g4)) a1 rfl rfl (AF a4.1) (BD a4.2)) fun _ _ _ h=>BK (C.T.trrok X ok.gx) a2 h
    ·cases h
   ·exact UQ R ok h
noncomputable def fD:Expr->Bool
 | .UnaryOp .USub (.Constant (.int 1) _ _) _=>true
 | _=>false
def bY (r:Rec) (C:Cf) (Γ:Gm) (a st:Expr):Option CE:=if fD st then (HR r C Γ a st).bind fun p=>some ⟨1,p.2.Γ,jj p,Cc (two C.T.rv) (AK [p.1.a,p.2.a])⟩ else none
theorem Wy {r:Rec} (R:OkR r) {C:Cf} {X:Cx} {Γ:Gm} {a st:Expr} {p2 pos:Pos} {c:CE} (ok:Cok C X) (h:bY r C Γ a st=some c):PE X (.Subscript a (.Slice none none (some st) p2) pos) (tE X.K Γ c.o c.Γ c.js c.f):=by
 unfold bY at h;split at h
 ·rename_i hm;obtain ⟨p,e1,h⟩:=bind_some' h;cases h;obtain ⟨h1,h2,h3⟩:=Dc R ok e1;unfold fD at hm;split at hm
  ·exact PE.imp (Vu X.K h1 h2 rfl (by intro o i;exact ⟨_,by with_unfolding_all rfl⟩)) fun _ _ _ h=>BK (C.T.rvok X ok.gx) h3 h
  ·cases hm
 ·cases h
noncomputable def WO (f:Expr) (es:List Expr) (ks:List Keyword):Option (Expr×Expr):=match f,es,ks with
 | .Name x _,[a],[⟨some y,e,_⟩]=>if x == ("max" : Str) && y == ("default" : Str) then some (a,e) else none
 | _,_,_=>none
theorem Pm {f:Expr} {es:List Expr} {ks:List Keyword} {q:Expr×Expr} (h:WO f es ks=some q):∃ p kp,f=.Name "max" p/\es=[q.1]/\ks=[⟨some "default", q.2,kp⟩]:=by
 unfold WO at h;split at h
 ·split at h
  ·rename_i e;rw [jh,beq_iff_eq,beq_iff_eq] at e;obtain ⟨rfl,rfl⟩:=e;cases h;exact ⟨_,_,rfl,rfl,rfl⟩
  ·cases h
 ·cases h
def iS (r:Rec) (C:Cf) (Γ:Gm) (a e:Expr):Option CE:=if GD C.sc "max" && C.bl.contains "max" && Aq a then (HR r C Γ a e).bind fun p=>some ⟨1,p.2.Γ,jj p,Cc (two C.T.md) (AK [p.1.a,p.2.a])⟩ else none
theorem bg {r:Rec} (R:OkR r) {C:Cf} {X:Cx} {Γ:Gm} {a e:Expr} {p kp pos:Pos} {c:CE} (ok:Cok C X) (h:iS r C Γ a e=some c):PE X (.Call (.Name "max" p) [a] [⟨some "default", e,kp⟩] pos) (tE X.K Γ c.o c.Γ c.js c.f):=by
 unfold iS at h;split at h
 ·rename_i hg;simp only [jh] at hg;obtain ⟨⟨g1,g2⟩,g3⟩:=hg;obtain ⟨p,e1,h⟩:=bind_some' h;cases h;obtain ⟨h1,h2,h3⟩:=Dc R ok e1;exact PE.imp (Vv ok.calm (BN ok g1) (ok.bl _ (jy.mp g2)) h1 h2 (AF g3)) fun _ _ _ h=>BK (C.T.mdok X ok.gx) h3 h
 ·cases h
def Jj (r:Rec) (C:Cf) (Γ:Gm) (f:Expr) (es:List Expr) (ks:List Keyword) (pos:Pos):Option CE:=match ks with
 | []=>NJ r C Γ f es pos
 | k::ks=>match WO f es (k::ks) with
  | some q=>iS r C Γ q.1 q.2
  | none=>none
theorem Ql {r:Rec} (R:OkR r) {C:Cf} {X:Cx} {Γ:Gm} {f:Expr} {es:List Expr} {ks:List Keyword} {pos:Pos} {c:CE} (ok:Cok C X) (h:Jj r C Γ f es ks pos=some c):PE X (.Call f es ks pos) (tE X.K Γ c.o c.Γ c.js c.f):=by
 cases ks with
 | nil=>exact Qk R ok h
 | cons k ks =>
  cases q:WO f es (k::ks) with
  | none=>unfold Jj at h;simp only [q] at h;cases h
  | some z =>
   unfold Jj at h;simp only [q] at h;obtain ⟨p,kp,e1,e2,e3⟩:=Pm q;rw [e1,e2,e3];exact bg R ok h
def Xt (r:Rec) (C:Cf) (Γ:Gm) (e:Expr):Option CE:=match e with
 | .Constant k _ _=>UP Γ k
 | .Name x _=>UO C Γ x
 | .BinOp a op b _=>gC r C Γ a op b
 | .UnaryOp .USub a _=>fu r C Γ a
 | .UnaryOp .Not a _=>fo r C Γ a
 | .Compare a [op] [b] _=>(NH r C Γ a op b).map cS
 | .Compare a [op,op'] [b,c] _=>(NI r C Γ a op b op' c).map cS
 | .BoolOp op vs pos=>Rk r C Γ op vs pos
 | .IfExp c a b _=>gA r C Γ c a b
 | .Call f es ks pos=>Jj r C Γ f es ks pos
 | .Tuple es _ _=>fj r C Γ es
 | .List es _=>fw r C Γ es
 | .Dict [] [] _=>some ⟨1,Γ,[],TQ⟩
 | .Subscript a (.Slice lo hi none _) _=>jM r C Γ a lo hi
 | .Subscript a (.Slice none none (some st) _) _=>bY r C Γ a st
 | .Subscript a b _=>if Ej b then iU r C Γ a b else none
 | .ListComp e gens sc _=>Ik r C Γ e gens sc
 | _=>none
theorem Ri {r:Rec} (R:OkR r) {C:Cf} {X:Cx} {Γ:Gm} {e:Expr} {c:CE} (ok:Cok C X) (h:Xt r C Γ e=some c):PE X e (tE X.K Γ c.o c.Γ c.js c.f):=by
 match e,h with
 | .Constant k j pos,h=>exact Qi h
 | .Name x pos,h=>exact UN ok h
 | .BinOp a op b pos,h=>exact XM R ok h
 | .UnaryOp op a pos,h =>
  cases op with
  | USub=>exact XC R ok h
  | Not =>
   obtain ⟨c1,e1,h⟩:=bind_some' (show (r.E C Γ a).bind _=some c from h);cases h;exact PE.imp (Zy (DA (R.E ok e1))) fun _ _ _ h=>ZC h
  | _=>cases h
 | .Compare a ops bs pos,h =>
  match ops,bs,h with
  | [op],[b],h =>
   cases q:NH r C Γ a op b with
   | none=>replace h:(NH r C Γ a op b).map cS=some c:=h;rw [q] at h;cases h
   | some t =>
    replace h:(NH r C Γ a op b).map cS=some c:=h;rw [q] at h;cases h;exact (Oh R ok q).2 1
  | [op,op'],[b,d],h =>
   cases q:NI r C Γ a op b op' d with
   | none=>replace h:(NI r C Γ a op b op' d).map cS=some c:=h;rw [q] at h;cases h
   | some t =>
    replace h:(NI r C Γ a op b op' d).map cS=some c:=h;rw [q] at h;cases h;exact (Oi R ok q).2 1
  | [],_,h=>cases h
  | [_],[],h=>cases h
  | [_],_::_::_,h=>cases h
  | [_,_],[],h=>cases h
  | [_,_],[_],h=>cases h
  | [_,_],_::_::_::_,h=>cases h
  | _::_::_::_,_,h=>cases h
 | .BoolOp op vs pos,h=>exact PF R ok h
 | .IfExp c a b pos,h=>exact XF R ok h
 | .Call f es ks pos,h=>exact Ql R ok h
 | .Tuple es k pos,h=>exact Wv R ok h
 | .List es pos,h=>exact XE R ok h
 | .Dict ks vs pos,h =>
  cases ks with
  | nil =>
   cases vs with
   | nil=>cases h;exact dc
   | cons _ _=>cases h
  | cons _ _=>cases h
 | .Subscript a b pos,h =>
  have ix:Ej b=true->(if Ej b then iU r C Γ a b else none)=some c->PE X (.Subscript a b pos) (tE X.K Γ c.o c.Γ c.js c.f):=fun hb h=>by
   rw [if_pos hb] at h;exact bj R ok hb h
  match b,h with
  | .Slice lo hi st p2,h =>
   cases st with
   | none=>exact bW R ok h
   | some st =>
    cases lo with
    | none =>
     cases hi with
     | none=>exact Wy R ok h
     | some _=>cases h
    | some _=>cases h
  | .NamedExpr ..,h | .BinOp ..,h | .Lambda ..,h | .Dict ..,h | .Set ..,h | .ListComp ..,h | .SetComp ..,h | .DictComp ..,h | .GeneratorExp ..,h | .Await ..,h | .Yield ..,h | .YieldFrom ..,h | .Call ..,h | .FormattedValue ..,h | .JoinedStr ..,h | .Constant ..,h | .Attribute ..,h | .Subscript ..,h | .Starred ..,h | .Name ..,h | .List ..,h | .Tuple ..,h | .UnaryOp ..,h | .BoolOp ..,h | .IfExp ..,h | .Compare ..,h=>exact ix rfl h
 | .ListComp e gens sc pos,h=>exact LZ R ok h
 | .NamedExpr ..,h | .Lambda ..,h | .Set ..,h | .SetComp ..,h | .DictComp ..,h | .GeneratorExp ..,h | .Await ..,h | .Yield ..,h | .YieldFrom ..,h | .FormattedValue ..,h | .JoinedStr ..,h | .Attribute ..,h | .Starred ..,h | .Slice ..,h=>cases h
noncomputable def Ko:Expr->Bool
 | .ListComp ..=>false
 | .SetComp ..=>false
 | .DictComp ..=>false
 | _=>true
theorem GY {e:Expr} {t:Option Expr} {l:Nat} {env:Env} (h:Ko e=true):swapsWith e t l env=pure false:=by
 cases e<;>first | rfl | (cases h)
theorem RK {K:W.Frag} {Γ Γ' Γ2:Gm} {js:List Nat} {o:Nat} {f:Ev Dv} {σ:St} {H:Hp} {Q:VK} (hw:BY Γ2 Γ'=true) (h:tE K Γ o Γ2 js f σ H Q):tE K Γ o Γ' js f σ H Q:=by
 obtain ⟨g,m,P,r,R,k,res,e,q⟩:=h;refine ⟨g,m,P,r,R,k,res,e,fun b m' g' P' Pv v H' hk ag s rv r1 n=>?_⟩;obtain ⟨g2,P2,s2,r2⟩:=r1.weaken hw;have nn:Disj Pv P':=fun a q z=>n a z q
 refine q b m' g2 P2 Pv v H' hk ag (s.trans ((s2.frame (R:=Pv)).sub (fun _ z=>z) fun _ z=>z)) (rv.held s2 r1.fpOk nn) r2 fun a q z=>s2.out rv.fpOk nn a z q
def Rq (Γ:Gm):CS:=⟨some Γ,[],HL,false,false,false⟩
def fm (r:Rec) (C:Cf) (Γ:Gm) (e:Expr):Option CS:=(match Sk C e with
 | some i=>(match Γ.getD i none with | some o=>some (CE.mk o (Γ.set i none) [] (OP i)) | none=>none)
 | none=>r.E C Γ e).bind fun c=>if BY C.F.Γr c.Γ && (C.F.ro == 0 || c.o == C.F.ro) then some ⟨none,c.js,YT c.f,true,false,false⟩ else none
theorem Wz {r:Rec} (R:OkR r) {C:Cf} {X:Cx} {Γl:Option Gm} {Γ:Gm} {e:Expr} {pos:Pos} {c:CS} (ok:Cok C X) (h:fm r C Γ e=some c):PS X (.Return (some e) pos) (tS X.K C.F Γl Γ c.Γ c.js c.f):=by
  obtain ⟨c1,e1,h⟩:=bind_some' h;split at h
  · rename_i hw;simp only [jh,mT,beq_iff_eq] at hw;cases h;have he:PE X e (tE X.K Γ c1.o c1.Γ c1.js c1.f):=by
      split at e1
      · rename_i i hi;split at e1
        · rename_i o ho;cases e1;exact dZ (Cb ok hi) (Az ho)
        · cases e1
      · exact R.E ok e1
    have he2:PE X e (tE X.K Γ C.F.ro c1.Γ c1.js c1.f):=by
      rcases hw.2 with z | z
      · rw [z];exact DA he
      · rw [<- z];exact he
    exact dO (PE.imp he2 fun _ _ _ h=>RK hw.1 h)
  · cases h
def bp (r:Rec) (C:Cf) (Γ:Gm) (e:Expr):Option CS:=if Ko e then (r.E C Γ e).bind fun c=>some ⟨some c.Γ,c.js,Ta c.f,false,false,false⟩ else none
theorem Og {r:Rec} (R:OkR r) {C:Cf} {X:Cx} {Γl:Option Gm} {Γ:Gm} {e:Expr} {pos:Pos} {c:CS} (ok:Cok C X) (h:bp r C Γ e=some c):PS X (.Expr e pos) (tS X.K C.F Γl Γ c.Γ c.js c.f):=by
 unfold bp at h;split at h
 ·rename_i hn;obtain ⟨c1,e1,h⟩:=bind_some' h;cases h;exact ZV (R.E ok e1) (GY hn)
 ·cases h
def Of (C:Cf) (x:Str) (c:CE):Option CS:=(Jo C x).bind fun i=>if decide (i < c.Γ.length) && !C.F.io.contains i then some ⟨some (c.Γ.set i (some c.o)),c.js++[i],IY c.f (cq i),false,false,false⟩ else none
theorem LY {C:Cf} {X:Cx} {Γl:Option Gm} {Γ:Gm} {x:Str} {e:Expr} {pos pos':Pos} {c1:CE} {c:CS} (ok:Cok C X) (he:PE X e (tE X.K Γ c1.o c1.Γ c1.js c1.f)) (hs:swapsWith e (some (.Name x pos')) pos.line X.env=pure false) (h:Of C x c1=some c):PS X (.Assign [.Name x pos'] e pos) (tS X.K C.F Γl Γ c.Γ c.js c.f):=by
 obtain ⟨i,e1,h⟩:=bind_some' h;split at h
 ·rename_i hw;simp only [jh,decide_eq_true_eq,lD] at hw;cases h;obtain ⟨h1,h2,h3⟩:=GQ ok e1;exact dN ok.nd h1 h2 (fun z=>by rw [jy.mpr z] at hw;cases hw.2) hw.1 he hs h3
 ·cases h
def gv (sc:Scope) (x:Str) (pl:Nat) (scope:Scope) (vl:Nat):Bool:=(if sc.kind.isAnnotationScope then ScopeKind.function else sc.kind) == .function && sc.names.lookup x == some .local && pl == vl && !(scope.names.any fun (n,k)=>n == x && (k == .local || k == .cell))
theorem Rb {X:Cx} {C:Cf} (ok:Cok C X) {x:Str} {pos':Pos} {elt:Expr} {gens:List Comprehension} {scope:Scope} {pos:Pos} {l:Nat}:swapsWith (.ListComp elt gens scope pos) (some (.Name x pos')) l X.env=pure (gv C.sc x pos'.line scope pos.line):=by
 unfold gv;rw [<- ok.sc];rfl
theorem Qj {r:Rec} (R:OkR r) {C:Cf} {X:Cx} {Γ:Gm} {elt:Expr} {gens:List Comprehension} {scope:Scope} {pos:Pos} {c:CE} (ok:Cok C X) (h:Ik r C Γ elt gens scope=some c) :
    ∃ t:TE,(∀ σ H Q,tE X.K Γ c.o c.Γ c.js c.f σ H Q->t σ H Q)/\∀ {i x pos' spos},X.N[i]?=some x->Loc X.env.scope x->(X.fn x=true\/X.env.scope.names.lookup x=some .local)->swapsWith (.ListComp elt gens scope pos) (some (.Name x pos')) spos.line X.env=pure true->PS X (.Assign [.Name x pos'] (.ListComp elt gens scope pos) spos) (KF t (DX i)):=by
  unfold Ik at h;split at h
  · rename_i tg iter ifs;obtain ⟨s,e1,h⟩:=bind_some' h;simp only at h;split at h
    · rename_i hin;obtain ⟨t,e2,h⟩:=bind_some' h;obtain ⟨p,e3,h⟩:=bind_some' h;split at h
      · rename_i hw;rw [jh] at hw;cases h;obtain ⟨f1,f2,f3⟩:=Jb e3;unfold KB at f1;split at f1
        · rename_i hj;obtain ⟨ct,f1a,f1⟩:=bind_some' f1;obtain ⟨ce,f1b,f1⟩:=bind_some' f1;have ep:p.2=⟨t,ct,ce⟩:=(Option.some.inj f1).symm;have hs:∀ x,foldedSetIterable iter X.env x=pure x:=fun x=>by cases iter<;>first | rfl | (cases e1)
          have hI:r.I C Γ (JV tg) iter=some s:=by cases iter<;>first | exact e1 | (cases e1)
          have hi:=R.I tg ok hI;have okI:=fun cl a s H fp=>ok.inner scope cl a s H fp
          have hg:∀ cl a s H fp,PG (X.inner scope cl a s H fp) tg (t.g X.K):=fun cl a s H fp=>(GC (okI cl a s H fp) e2).1
          have hsx:∀ i∈t.J,i∈MU C.N scope:=fun i hi=>jy.mp ((ka.mp hw.2) i hi)
          have hgo:RB (MU C.N scope) (t.g X.K):=(GC (okI [] 0 X.s₀ X.H₀ []) e2).2.1 _ hsx;have ht:NT X.K p.1 (t.Γ p.1) t.J (t.g X.K) t.f:=(GC (okI [] 0 X.s₀ X.H₀ []) e2).2.2 hj;have he:∀ cl a s H fp,PE (X.inner scope cl a s H fp) elt (tE X.K ct.Γ 0 ce.Γ ce.js ce.f):=fun cl a s H fp=>DA (R.E (okI cl a s H fp) f1b)
          have hin':innerOk X.N X.env.scope scope (MU C.N scope)=true:=by rw [ok.N,ok.sc];exact hin
          rw [ep] at f2 f3 ⊢;simp only at f2 f3 ⊢;cases ifs with
          | nil =>
            cases f1a;have hc:∀ cl a s H fp,Uv (X.inner scope cl a s H fp) [] (tT X.K (t.Γ p.1) (t.Γ p.1) [] Da):=fun cl a s H fp=>Sg
            refine ⟨_,?_,fun {i x pos' spos} hix hx hf hsw=>Kf ok.nd hix hx hin' ok.calm hi hg hgo hc he hsw hs hf⟩;intro σ H Q h;cases hJ:Av p.1 (t.J++([]++ce.js)) with
            | nil=>rw [hJ] at h;exact Kw ht hw.1 f3 f2 hsx hJ.symm h
            | cons j J=>rw [hJ] at h;exact Ih ht hw.1 f3 f2 hsx hJ.symm h
          | cons i1 ifs =>
            cases ifs with
            | nil =>
              have hc:∀ cl a s H fp,Uv (X.inner scope cl a s H fp) [i1] (tT X.K (t.Γ p.1) ct.Γ ct.js ct.f):=fun cl a s H fp=>.one (R.T (okI cl a s H fp) f1a)
              refine ⟨_,?_,fun {i x pos' spos} hix hx hf hsw=>Kf ok.nd hix hx hin' ok.calm hi hg hgo hc he hsw hs hf⟩;intro σ H Q h;cases hJ:Av p.1 (t.J++(ct.js++ce.js)) with
              | nil=>rw [hJ] at h;exact Kx ht hw.1 f3 f2 hsx hJ.symm h
              | cons j J=>rw [hJ] at h;exact Ig ht hw.1 f3 f2 hsx hJ.symm h
            | cons _ _=>cases f1a
        · cases f1
      · cases h
    · cases h
  · cases h
def Yc (r:Rec) (C:Cf) (Γ:Gm) (x:Str) (elt:Expr) (gens:List Comprehension) (scope:Scope):Option CS:=(Ik r C Γ elt gens scope).bind fun c=>Of C x c
theorem UU {r:Rec} (R:OkR r) {C:Cf} {X:Cx} {Γl:Option Gm} {Γ:Gm} {x:Str} {elt:Expr} {gens:List Comprehension} {scope:Scope} {pos' cpos pos:Pos} {c:CS} (ok:Cok C X) (h:Yc r C Γ x elt gens scope=some c):PS X (.Assign [.Name x pos'] (.ListComp elt gens scope cpos) pos) (tS X.K C.F Γl Γ c.Γ c.js c.f):=by
 obtain ⟨c1,e1,h⟩:=bind_some' h;cases hb:gv C.sc x pos'.line scope cpos.line with
 | false=>exact LY ok (LZ R ok e1) (by rw [Rb ok,hb]) h
 | true =>
  obtain ⟨i,e2,h⟩:=bind_some' h;split at h
  ·rename_i hw;simp only [jh,decide_eq_true_eq,lD] at hw;cases h;obtain ⟨h1,h2,h3⟩:=GQ ok e2;obtain ⟨t,q1,q2⟩:=Qj R (pos:=cpos) ok e1;refine PS.imp (q2 h1 h2 h3 (by rw [Rb ok,hb])) fun D σ H h=>q1 _ _ _ (Nn hw.1 (fun z=>by rw [jy.mpr z] at hw;cases hw.2) h)
  ·cases h
noncomputable def ef:Expr->Bool
 | .Tuple ..=>false
 | _=>true
theorem PC {tg e:Expr} {env:Env} (h:ef e=true):swappedStores [tg] e env=pure none:=by
 cases e<;>first | (cases h;done) | (cases tg<;>rfl)
theorem JE {tg e:Expr} {l:Nat} {env:Env} (h:Ko e=true):swapsWithSole [tg] e l env=pure false:=GY h
def UT (r:Rec) (C:Cf) (Γ:Gm) (es:List Expr) (k:Nat) (p:Pos) (e:Expr):Option CS:=if ef e && Ko e then (r.E C Γ e).bind fun c=>(cG C (.Tuple es k p)).bind fun t=>if t.J.all (fun i=>decide (i < c.Γ.length) && !C.F.io.contains i) then some ⟨some (t.Γ c.Γ),c.js++t.J,IY c.f t.f,false,false,false⟩ else none else none
theorem US {r:Rec} (R:OkR r) {C:Cf} {X:Cx} {Γl:Option Gm} {Γ:Gm} {es:List Expr} {k:Nat} {p pos:Pos} {e:Expr} {c:CS} (ok:Cok C X) (h:UT r C Γ es k p e=some c):PS X (.Assign [.Tuple es k p] e pos) (tS X.K C.F Γl Γ c.Γ c.js c.f):=by
 unfold UT at h;split at h
 ·rename_i hn;rw [jh] at hn;obtain ⟨c1,e1,h⟩:=bind_some' h;obtain ⟨t,e2,h⟩:=bind_some' h;split at h
  ·rename_i hw;cases h;obtain ⟨g1,_,g3⟩:=GC ok e2;rw [ka] at hw;refine dU (DA (R.E ok e1)) g1 (g3 (by rw [ka];exact fun i hi=>(lH.mp (hw i hi)).1)) (fun i hi z=>?_) (JE hn.2) (PC hn.1) rfl;have:=(lH.mp (hw i z)).2;rw [jy.mpr hi] at this;cases this
  ·cases h
 ·cases h
def fT (i j:Nat) (fa:Ev (List Dv)):Es:=fun R m k=>fa R m fun ds m1=>match ds with | [a,b]=>k.nx ((m1.set i a).set j b) | _=>none
def aE (sc:Scope) (x y:Str) (px py:Pos) (a b:Expr):Bool:=(match sc.kind with | .function=>true | _=>false) && (match sc.names.lookup x with | some .local=>true | _=>false) && (match sc.names.lookup y with | some .local=>true | _=>false) && !(x == y) && (py.line == px.line) && Aq a && Aq b && !(foldedForSure 8 a && foldedForSure 8 b) && !(constantsAlone 8 a && constantsAlone 8 b)
theorem aD {env:Env} {x y:Str} {px py pt pt2:Pos} {kt k2:Nat} {a b:Expr} (h:aE env.scope x y px py a b=true):swappedStores [.Tuple [.Name x px,.Name y py] kt pt] (.Tuple [a,b] k2 pt2) env=pure (some [x,y])/\env.scope.names.lookup x=some .local/\env.scope.names.lookup y=some .local:=by
 unfold aE at h;simp only [jh,lD] at h;obtain ⟨⟨⟨⟨⟨⟨⟨⟨h1,h2⟩,h3⟩,h4⟩,h5⟩,h6⟩,h7⟩,h8⟩,h9⟩:=h;have k1:env.scope.kind=.function:=by split at h1;(assumption);(cases h1)
 have k2:env.scope.names.lookup x=some .local:=by split at h2;(assumption);(cases h2)
 have k3:env.scope.names.lookup y=some .local:=by split at h3;(assumption);(cases h3)
 refine ⟨?_,k2,k3⟩;have kx:env.kindOf x=some .local:=k2;have ky:env.kindOf y=some .local:=k3;have yx:(y == x)=false:=by
  cases q:y == x with
  | false=>rfl
  | true=>rw [beq_iff_eq.mp q,beq_self_eq_true] at h4;cases h4
 unfold swappedStores;simp [Env.blockKind,k1,ScopeKind.isAnnotationScope,kx,ky,beq_iff_eq.mp h5,h8,h9,List.eraseDups_cons,yx,h4,Expr.pos];rintro (z | z)
 ·cases a<;>first | (cases z;done) | (cases h6;done)
 ·cases b<;>first | (cases z;done) | (cases h7;done)
def bZ (r:Rec) (C:Cf) (Γ:Gm) (x y:Str) (px py:Pos) (a b:Expr):Option CS:=if aE C.sc x y px py a b then (r.A C Γ [] [a,b]).bind fun c=>(Cu C.N x).bind fun i=>(Cu C.N y).bind fun j=>if decide (i < c.Γ.length) && decide (j < c.Γ.length) && !(i == j) && !C.F.io.contains i && !C.F.io.contains j then some ⟨some ((c.Γ.set i (some 0)).set j (some 0)),c.js++([i]++[j]),fT i j (AK c.as),false,false,false⟩ else none else none
theorem XA {r:Rec} (R:OkR r) {C:Cf} {X:Cx} {Γl:Option Gm} {Γ:Gm} {x y:Str} {px py pt pt2 pos:Pos} {kt k2:Nat} {a b:Expr} {c:CS} (ok:Cok C X) (h:bZ r C Γ x y px py a b=some c):PS X (.Assign [.Tuple [.Name x px,.Name y py] kt pt] (.Tuple [a,b] k2 pt2) pos) (tS X.K C.F Γl Γ c.Γ c.js c.f):=by
 unfold bZ at h;split at h
 ·rename_i hp;obtain ⟨c1,e1,h⟩:=bind_some' h;obtain ⟨i,e2,h⟩:=bind_some' h;obtain ⟨j,e3,h⟩:=bind_some' h;split at h
  ·rename_i hw;simp only [jh,decide_eq_true_eq,lD,beq_eq_false_iff_ne] at hw;obtain ⟨⟨⟨⟨w1,w2⟩,w3⟩,w4⟩,w5⟩:=hw;cases h;obtain ⟨a1,a2,a3,a4,a5⟩:=R.A ok e1;rw [<- ok.sc] at hp;obtain ⟨p1,p2,p3⟩:=aD (pt:=pt) (pt2:=pt2) (kt:=kt) (k2:=k2) hp;refine PS.imp (Zh ok.calm ok.nd (by rw [ok.N];exact Bg e2) (by rw [ok.N];exact Bg e3) w3 p2 p3 a1 p1 rfl) fun D σ H h=>?_
   obtain ⟨g,m,P,r',R',k,res,e,q⟩:=h;refine AI c1.as r' a2 e fun ds m1 g1 P1 vs H1 hk ag s ar r1=>?_
   have rp:=ar.reps (a5 rfl)
   match ds,hk,rp with
   | [d1,d2],hk,rp =>
    obtain ⟨v1,us,rfl,h1,rp⟩:=AU rp;obtain ⟨v2,us2,rfl,h2,rp⟩:=AU rp;cases AY rp;obtain ⟨P2,r2,s2⟩:=r1.setNew w1 h1 fun _ z=>z.elim
    obtain ⟨P3,r3,s3⟩:=r2.setNew (by rw [kR];exact w2) h2 fun _ z=>z.elim
    refine ⟨v1,v2,rfl,q.nx _ _ g1 P3 _ H1 rfl hk (ag.trans (Bd.set.trans Bd.set)) (s.less fun a z=>(s3 a z).elim (fun z=>(s2 a z).elim id False.elim) False.elim) ((Io.set ?_).trans (Io.set ?_)) r3⟩
    ·exact fun z=>by rw [jy.mpr z] at w4;cases w4
    ·exact fun z=>by rw [jy.mpr z] at w5;cases w5
   | [],hk,_=>cases hk
   | [_],hk,_=>cases hk
   | _::_::_::_,hk,_=>cases hk
  ·cases h
 ·cases h
def UF (r:Rec) (C:Cf) (Γ:Gm) (x k e:Expr):Option CS:=if Ko e && Ej k then (Sk C x).bind fun i=>(r.E C Γ e).bind fun c=>(Lg r C c.Γ k).bind fun a=>if (c.Γ.getD i none).isSome && a.Γ.getD i none == some 1 then some ⟨some a.Γ,c.js++((a.js++[])++[i]),YS i C.T.st c.f (AK [a.a]),false,false,false⟩ else none else none
theorem FE {X:Cx} {x k:Expr} {tpos:Pos} (hk:Ej k=true):∀ v,assign (.Subscript x k tpos) X.env v=(do
      let ov <- holding [v] (eval x X.env)
      let iv <- holding [v,ov] (eval k X.env)
      standAt tpos
      holding [v,ov,iv] (setItem ov iv v)
      release [v,ov,iv] []):=fun v=>by
  cases k<;>first | rfl | (cases hk)
theorem UE {r:Rec} (R:OkR r) {C:Cf} {X:Cx} {Γl:Option Gm} {Γ:Gm} {x k e:Expr} {tpos pos:Pos} {c:CS} (ok:Cok C X) (h:UF r C Γ x k e=some c):PS X (.Assign [.Subscript x k tpos] e pos) (tS X.K C.F Γl Γ c.Γ c.js c.f):=by
 unfold UF at h;split at h
 ·rename_i hn;rw [jh] at hn;obtain ⟨i,e0,h⟩:=bind_some' h;obtain ⟨c1,e1,h⟩:=bind_some' h;obtain ⟨a,e2,h⟩:=bind_some' h;split at h
  ·rename_i hw;rw [jh] at hw;cases h;obtain ⟨a1,a2⟩:=Dw R ok e2;obtain ⟨T,t1,t2⟩:=C.T.stok X ok.gx;refine PS.imp (ML (DA (R.E ok e1)) (MP (Cb ok e0) a1 t1 (FE hn.2)) (JE hn.1) ?_ rfl) fun D σ H h=>Rt t2 a2 (getD_some hw.1) (Az (beq_iff_eq.mp hw.2)) h
   cases e<;>rfl
  ·cases h
 ·cases h
def YI:Option Gm->Option Gm->Option Gm
 | some a,some b=>some (Be a b)
 | none,b=>b
 | a,none=>a
def jO (r:Rec) (C:Cf) (Γl:Option Gm) (Γ:Gm) (c:Expr) (a b:List Stmt):Option CS:=(r.T C Γ c).bind fun t=>(r.Ss C Γl t.Γ a).bind fun x=>(r.Ss C Γl t.Γ b).bind fun y=>let Γn:=YI x.Γ y.Γ;let js:=t.js++(x.js++y.js);if JQ Γn x.Γ && JQ Γn y.Γ then some ⟨Γn,js,match x.Γ,y.Γ,Γn with
      | some _,some _,some Γ'=>if x.er || x.eb || x.ec || y.er || y.eb || y.ec then LG t.f x.f y.f else fU (Av Γ' js) (LG t.f x.f y.f)
      | _,_,_=>LG t.f x.f y.f,x.er || y.er,x.eb || y.eb,x.ec || y.ec⟩ else none
theorem bo {r:Rec} (R:OkR r) {C:Cf} {X:Cx} {Γl:Option Gm} {Γ:Gm} {t:Expr} {a b:List Stmt} {pos:Pos} {c:CS} (ok:Cok C X) (h:jO r C Γl Γ t a b=some c):PS X (.If t a b pos) (tS X.K C.F Γl Γ c.Γ c.js c.f):=by
 obtain ⟨ct,e1,h⟩:=bind_some' h;obtain ⟨x,e2,h⟩:=bind_some' h;obtain ⟨y,e3,h⟩:=bind_some' h;simp only at h;split at h
 ·rename_i hw;rw [jh] at hw;have base:PS X (.If t a b pos) (tS X.K C.F Γl Γ (YI x.Γ y.Γ) (ct.js++(x.js++y.js)) (LG ct.f x.f y.f)):=gy (R.T ok e1) (Rv (R.Ss ok e2) hw.1) (Rv (R.Ss ok e3) hw.2);cases h;split
  ·rename_i Γ' _ _ hj;split
   ·exact base
   ·simp only [hj] at base ⊢;exact PS.imp base fun D σ H h=>aj (fun i o z=>BM z) (fun i z=>Au z) h
  ·exact base
 ·cases h
noncomputable def Uc (f:Int->Int->Int) (x y:Dv):Option Dv:=match x,y with | .int i,.int j=>some (.int (f i j)) | _,_=>none
theorem Qq {f:Int->Int->Int} {x y z:Dv} (h:Uc f x y=some z):∃ i j,x=.int i/\y=.int j/\z=.int (f i j):=by
 unfold Uc at h;split at h
 ·cases h;exact ⟨_,_,rfl,rfl,rfl⟩
 ·cases h
def gI:=Uc fun i j=>i+j
def cL:=Uc fun i j=>i - j
def Tc (i:Nat) (p:Dv->Dv->Option Dv) (f:Ev Dv):Es:=fun R m k=>f R m fun d m1=>(p (m.at i) d).bind fun y=>k.nx (m1.set i y)
theorem Oj {K:W.Frag} {F:Fr} {Γl:Option Gm} {Γ Γ2:Gm} {js:List Nat} {fe:Ev Dv} {i o:Nat} {f:Int->Int->Int} (h0:Γ[i]?=some (some o)) (hi:i < Γ2.length) (hio:i∉F.io) {D:Ends} {σ:St} {H:Hp} (h:tS K F Γl Γ (some (Γ2.set i (some 0))) (js++[i]) (Tc i (Uc f) fe) D σ H):dH i (tE K Γ 0 Γ2 js fe) (iB f) D σ H:=by
 obtain ⟨g0,m,P,r,R,k,res,e,q⟩:=h;obtain ⟨v0,P0,ev0,rv0,_⟩:=r.see h0;refine ⟨v0,ev0,g0,m,P,r,R,_,res,e,fun d m1 g' P' Pv v H' hk ag s rv r1 n=>?_⟩;obtain ⟨y,e1,e2⟩:=bind_some' hk;obtain ⟨a,b,ea,rfl,rfl⟩:=Qq e1;rw [ea] at rv0;refine ⟨a,b,rep_int rv0,rep_int rv,?_⟩;obtain ⟨P2,r2,s2⟩:=r1.setNew (o:=0) (v:=.int (f a b)) (d:=.int (f a b)) (Pv:=nop) hi BG fun _ z=>z.elim
 exact q.nx _ _ g' P2 _ H' rfl e2 (ag.trans Bd.set) (s.less fun a z=>(s2 a z).elim .inl False.elim) (Io.set hio) r2
def gE (r:Rec) (C:Cf) (Γ:Gm) (x:Str) (op:Operator) (e:Expr):Option CS:=(Jo C x).bind fun i=>if (Γ.getD i none).isSome then (r.E C Γ e).bind fun c=>if decide (i < c.Γ.length) && !C.F.io.contains i then (match op with
    | .Add=>some ⟨some (c.Γ.set i (some 0)),c.js++[i],Tc i gI c.f,false,false,false⟩
    | .Sub=>some ⟨some (c.Γ.set i (some 0)),c.js++[i],Tc i cL c.f,false,false,false⟩
    | _=>none) else none else none
theorem XN {r:Rec} (R:OkR r) {C:Cf} {X:Cx} {Γl:Option Gm} {Γ:Gm} {x:Str} {op:Operator} {e:Expr} {pos pos':Pos} {c:CS} (ok:Cok C X) (h:gE r C Γ x op e=some c):PS X (.AugAssign (.Name x pos') op e pos) (tS X.K C.F Γl Γ c.Γ c.js c.f):=by
 obtain ⟨i,e1,h⟩:=bind_some' h;split at h
 ·rename_i hs;obtain ⟨c1,e2,h⟩:=bind_some' h;split at h
  ·rename_i hw;simp only [jh,decide_eq_true_eq,lD] at hw;obtain ⟨o,ho⟩:=getD_some hs;obtain ⟨h1,h2,h3⟩:=GQ ok e1;have hio:i∉C.F.io:=fun z=>by rw [jy.mpr z] at hw;cases hw.2
   split at h
   ·cases h;exact PS.imp (SL ok.nd h1 h2 (DA (R.E ok e2)) aw h3) fun _ _ _ h=>Oj ho hw.1 hio h
   ·cases h;exact PS.imp (SL ok.nd h1 h2 (DA (R.E ok e2)) av h3) fun _ _ _ h=>Oj ho hw.1 hio h
   ·cases h
  ·cases h
 ·cases h
def TL (r:Rec) (C:Cf) (pre:Gm->Gm) (body:List Stmt):Nat->Gm->Option (Gm×CS)
 | 0,_=>none
 | n+1,Γ=>match r.Ss C (some Γ) (pre Γ) body with
  | some x=>if JQ (some Γ) x.Γ then some (Γ,x) else TL r C pre body n (match x.Γ with | some Γ'=>Be Γ Γ' | none=>Γ)
  | none=>TL r C pre body n (Γ.map fun o=>o.map fun _=>0)
theorem Ja {r:Rec} {C:Cf} {pre:Gm->Gm} {body:List Stmt}:∀ {n:Nat} {Γ:Gm} {p:Gm×CS},TL r C pre body n Γ=some p->r.Ss C (some p.1) (pre p.1) body=some p.2/\JQ (some p.1) p.2.Γ=true
 | 0,_,_,h=>by cases h
 | n+1,Γ,p,h=>by
  unfold TL at h;split at h
  ·rename_i x hx;split at h
   ·rename_i hw;cases h;exact ⟨hx,hw⟩
   ·exact Ja h
  ·exact Ja h
def gB (r:Rec) (C:Cf) (Γ:Gm) (tg iter:Expr) (body:List Stmt):Option CS:=(match iter with | .Set _ _ _=>none | _=>r.I C Γ (JV tg) iter).bind fun s=>(cG C tg).bind fun t=>if t.J.all (fun i=>decide (i < s.Γ.length) && !C.F.io.contains i) then (TL r C t.Γ body 4 s.Γ).bind fun p=>if BY p.1 s.Γ then
    let jb:=t.J++p.2.js
    some ⟨some p.1,s.js++jb,if p.2.er || p.2.eb then TY s.f t.f (Av p.1 jb) (Av C.F.Γr jb) p.2.f else TZ s.f t.f (Av p.1 jb) p.2.f,p.2.er,false,false⟩ else none else none
theorem XG {r:Rec} (R:OkR r) {C:Cf} {X:Cx} {Γl:Option Gm} {Γ:Gm} {tg iter:Expr} {body:List Stmt} {pos:Pos} {c:CS} (ok:Cok C X) (h:gB r C Γ tg iter body=some c):PS X (.For tg iter body [] pos) (tS X.K C.F Γl Γ c.Γ c.js c.f):=by
 obtain ⟨s,e1,h⟩:=bind_some' h;obtain ⟨t,e2,h⟩:=bind_some' h;split at h
 ·rename_i hj;obtain ⟨p,e3,h⟩:=bind_some' h;split at h
  ·rename_i hw;have hs:∀ x,foldedSetIterable iter X.env x=pure x:=fun x=>by cases iter<;>first | rfl | (cases e1)
   have hI:r.I C Γ (JV tg) iter=some s:=by cases iter<;>first | exact e1 | (cases e1)
   obtain ⟨f1,f2⟩:=Ja e3;obtain ⟨g1,_,g3⟩:=GC ok e2;rw [ka] at hj;have hJ:t.J.all (fun i=>decide (i < p.1.length))=true:=by
    rw [ka];intro i hi;rw [Dp hw];exact (lH.mp (hj i hi)).1
   have hio:∀ i∈C.F.io,i∉t.J:=fun i hi z=>by
    have:=(lH.mp (hj i z)).2;rw [jy.mpr hi] at this;cases this
   have hi:PI X tg iter (tI X.K Γ p.1 s.js s.f):=PI.imp (R.I tg ok hI) fun _ _ _ h=>Uz hw h
   have hp:PassesOwn (model X.prog X.w) X.A X.env X.xe:=by rw [ok.xe];exact PassesOwn.never
   have hb:=R.Ss ok f1;simp only at h;cases h;split
   ·exact ZT hp ok.calm hi g1 (g3 hJ) hio hb f2 rfl rfl hs
   ·exact ZU hp ok.calm hi g1 (g3 hJ) hio hb f2 rfl hs
  ·cases h
 ·cases h
noncomputable def gN:Nat:=1000000
def gU (r:Rec) (C:Cf) (Γ:Gm) (c:Expr) (body:List Stmt):Option CS:=(fixW r C c body 4 Γ).bind fun p=>if BY p.1 Γ then some ⟨some p.1,p.2.2.js,if p.2.2.er || p.2.2.eb then YN gN p.2.1.f (Av p.1 p.2.2.js) (Av C.F.Γr p.2.2.js) p.2.2.f else YO gN p.2.1.f (Av p.1 p.2.2.js) p.2.2.f,p.2.2.er,false,false⟩ else none
where
 fixW (r:Rec) (C:Cf) (c:Expr) (body:List Stmt):Nat->Gm->Option (Gm×CT×CS)
 | 0,_=>none
 | n+1,Γ=>(r.T C Γ c).bind fun t=>if t.js.isEmpty && BY Γ t.Γ then (match r.Ss C (some Γ) Γ body with
  | some x=>if JQ (some Γ) x.Γ then some (Γ,t,x) else fixW r C c body n (match x.Γ with | some Γ'=>Be Γ Γ' | none=>Γ)
  | none=>fixW r C c body n (Γ.map fun o=>o.map fun _=>0)) else fixW r C c body n (Be Γ t.Γ)
theorem GP {r:Rec} {C:Cf} {c:Expr} {body:List Stmt}:∀ {n:Nat} {Γ:Gm} {p:Gm×CT×CS},gU.fixW r C c body n Γ=some p->r.T C p.1 c=some p.2.1/\p.2.1.js=[]/\BY p.1 p.2.1.Γ=true/\r.Ss C (some p.1) p.1 body=some p.2.2/\JQ (some p.1) p.2.2.Γ=true
 | 0,_,_,h=>by cases h
 | n+1,Γ,p,h=>by
  unfold gU.fixW at h;obtain ⟨t,e1,h⟩:=bind_some' h;split at h
  ·rename_i hw;rw [jh] at hw;split at h
   ·rename_i x hx;split at h
    ·rename_i hl;cases h;exact ⟨e1,List.isEmpty_iff.mp hw.1,hw.2,hx,hl⟩
    ·exact GP h
   ·exact GP h
  ·exact GP h
theorem dP {X:Cx} {F:Fr} {Γl Γn:Option Gm} {Γ Γ':Gm} {js:List Nat} {s:Stmt} {f:Es} (hw:BY Γ' Γ=true) (h:PS X s (tS X.K F Γl Γ' Γn js f)):PS X s (tS X.K F Γl Γ Γn js f):=PS.imp h fun D σ H h=>by
 obtain ⟨g,m,P,r,R,k,res,e,q⟩:=h;obtain ⟨g2,P2,s2,r2⟩:=r.weaken hw;exact ⟨g2,m,P2,r2,R,k,res,e,⟨fun Γ' m' g' P' σ' H' e hk a s'=>q.nx Γ' m' g' P' σ' H' e hk a (s2.trans s'),fun d m' g' P' Pv σ' v H' hk a s'=>q.rt d m' g' P' Pv σ' v H' hk a (s2.trans s'),fun Γ' m' g' P' σ' H' e hk a s'=>q.bk Γ' m' g' P' σ' H' e hk a (s2.trans s'),fun Γ' m' g' P' σ' H' e hk a s'=>q.ct Γ' m' g' P' σ' H' e hk a (s2.trans s')⟩⟩
theorem bS {r:Rec} (R:OkR r) {C:Cf} {X:Cx} {Γl:Option Gm} {Γ:Gm} {t:Expr} {body:List Stmt} {pos:Pos} {c:CS} (ok:Cok C X) (h:gU r C Γ t body=some c):PS X (.While t body [] pos) (tS X.K C.F Γl Γ c.Γ c.js c.f):=by
 obtain ⟨p,e1,h⟩:=bind_some' h;split at h
 ·rename_i hw;cases h;obtain ⟨f1,f2,f3,f4,f5⟩:=GP e1;have hp:PassesOwn (model X.prog X.w) X.A X.env X.xe:=by rw [ok.xe];exact PassesOwn.never
  have ht:=R.T ok f1;rw [f2] at ht;refine dP hw ?_;split
  ·exact dJ gN hp ht (R.Ss ok f4) f3 f5 rfl rfl
  ·exact dM gN hp ht (R.Ss ok f4) f3 f5 rfl
 ·cases h
def fX:Es:=fun _ m k=>k.bk m
def fV:Es:=fun _ m k=>k.ct m
def bx (Γl:Option Gm) (Γ:Gm):Option CS:=match Γl with
 | some Γ'=>if BY Γ' Γ then some ⟨none,[],fX,false,true,false⟩ else none
 | none=>none
def bq (Γl:Option Gm) (Γ:Gm):Option CS:=match Γl with
 | some Γ'=>if BY Γ' Γ then some ⟨none,[],fV,false,false,true⟩ else none
 | none=>none
theorem XJ {C:Cf} {X:Cx} {Γl:Option Gm} {Γ:Gm} {pos:Pos} {c:CS} (h:bx Γl Γ=some c):PS X (.Break pos) (tS X.K C.F Γl Γ c.Γ c.js c.f):=by
  unfold bx at h;split at h
  · rename_i Γ';split at h
    · rename_i hw;cases h;exact PS.imp SK fun D σ H h=>by
        obtain ⟨g,m,P,r,R,k,res,e,q⟩:=h;obtain ⟨g2,P2,s2,r2⟩:=r.weaken hw;exact q.bk Γ' m g2 P2 σ H rfl e Bd.refl s2 Io.refl r2
    · cases h
  · cases h
theorem XH {C:Cf} {X:Cx} {Γl:Option Gm} {Γ:Gm} {pos:Pos} {c:CS} (h:bq Γl Γ=some c):PS X (.Continue pos) (tS X.K C.F Γl Γ c.Γ c.js c.f):=by
  unfold bq at h;split at h
  · rename_i Γ';split at h
    · rename_i hw;cases h;exact PS.imp Kg fun D σ H h=>by
        obtain ⟨g,m,P,r,R,k,res,e,q⟩:=h;obtain ⟨g2,P2,s2,r2⟩:=r.weaken hw;exact q.ct Γ' m g2 P2 σ H rfl e Bd.refl s2 Io.refl r2
    · cases h
  · cases h
noncomputable def YE (es:List Expr) (e:Expr):Option (Str×Pos×Str×Pos×Expr×Expr):=match es with
 | [.Name x px,.Name y py]=>match e with
  | .Tuple [a,b] _ _=>some (x,px,y,py,a,b)
  | _=>none
 | _=>none
noncomputable def Ra (es:List Expr):Option (Expr×Expr×Expr×Expr):=match es with
 | [.Subscript x k _,.Subscript y j _]=>some (x,k,y,j)
 | _=>none
theorem Lz {es:List Expr} {t:Expr×Expr×Expr×Expr} (h:Ra es=some t):∃ p q,es=[.Subscript t.1 t.2.1 p,.Subscript t.2.2.1 t.2.2.2 q]:=by
 unfold Ra at h;split at h
 ·cases h;exact ⟨_,_,rfl⟩
 ·cases h
def bV (r:Rec) (C:Cf) (Γ:Gm) (x k y j e:Expr):Option CS:=if Ko e && Ej k && Ej j then (Sk C x).bind fun i=>(Sk C y).bind fun i2=>if i == i2 then (r.E C Γ e).bind fun c=>(Lg r C c.Γ k).bind fun a=>(Lg r C a.Γ j).bind fun b=>if (c.Γ.getD i none).isSome && a.Γ.getD i none == some 1 && b.Γ.getD i none == some 1 then some ⟨some b.Γ,c.js++(((a.js++[])++[i])++((b.js++[])++[i])),YQ i C.T.st c.f (AK [a.a]) (AK [b.a]),false,false,false⟩ else none else none else none
theorem Ly {x k y j e:Expr} {p q pt:Pos} {kt:Nat} {env:Env}:swappedStores [.Tuple [.Subscript x k p,.Subscript y j q] kt pt] e env=pure none:=by
 cases e with
 | Tuple vs k2 p2 =>
  unfold swappedStores;simp only [];split
  ·rfl
  ·split
   ·rfl
   ·rfl
 | _=>rfl
theorem Wx {r:Rec} (R:OkR r) {C:Cf} {X:Cx} {Γl:Option Gm} {Γ:Gm} {x k y j e:Expr} {p q pt pos:Pos} {kt:Nat} {c:CS} (ok:Cok C X) (h:bV r C Γ x k y j e=some c):PS X (.Assign [.Tuple [.Subscript x k p,.Subscript y j q] kt pt] e pos) (tS X.K C.F Γl Γ c.Γ c.js c.f):=by
 unfold bV at h;split at h
 ·rename_i hn;simp only [jh] at hn;obtain ⟨i,e0,h⟩:=bind_some' h;obtain ⟨i2,e0',h⟩:=bind_some' h;split at h
  ·rename_i hi;have hi:=beq_iff_eq.mp hi;subst hi;obtain ⟨c1,e1,h⟩:=bind_some' h;obtain ⟨a,e2,h⟩:=bind_some' h;obtain ⟨b,e3,h⟩:=bind_some' h;split at h
   ·rename_i hw;simp only [jh] at hw;cases h;obtain ⟨a1,a2⟩:=Dw R ok e2;obtain ⟨b1,b2⟩:=Dw R ok e3;obtain ⟨T,t1,t2⟩:=C.T.stok X ok.gx;exact PS.imp (ML (DA (R.E ok e1)) (SY ok.calm (Gw (MP (Cb ok e0) a1 t1 (FE hn.1.2)) (Gw (MP (Cb ok e0') b1 t1 (FE hn.2)) OD))) (JE hn.1.1) Ly rfl) fun D σ H h=>VG t2 a2 b2 (getD_some hw.1.1) (Az (beq_iff_eq.mp hw.1.2)) (Az (beq_iff_eq.mp hw.2)) h
   ·cases h
  ·cases h
 ·cases h
def UD (r:Rec) (C:Cf) (Γ:Gm) (es:List Expr) (k:Nat) (p:Pos) (e:Expr):Option CS:=match YE es e with
 | some t=>bZ r C Γ t.1 t.2.2.1 t.2.1 t.2.2.2.1 t.2.2.2.2.1 t.2.2.2.2.2
 | none=>match Ra es with
  | some t=>bV r C Γ t.1 t.2.1 t.2.2.1 t.2.2.2 e
  | none=>UT r C Γ es k p e
theorem UC {r:Rec} (R:OkR r) {C:Cf} {X:Cx} {Γl:Option Gm} {Γ:Gm} {es:List Expr} {k:Nat} {p pos:Pos} {e:Expr} {c:CS} (ok:Cok C X) (h:UD r C Γ es k p e=some c):PS X (.Assign [.Tuple es k p] e pos) (tS X.K C.F Γl Γ c.Γ c.js c.f):=by
 unfold UD at h;split at h
 ·rename_i t q;unfold YE at q;split at q
  ·split at q
   ·cases q;exact XA R ok h
   ·cases q
  ·cases q
 ·split at h
  ·rename_i t q;obtain ⟨p1,p2,rfl⟩:=Lz q;exact Wx R ok h
  ·exact US R ok h
theorem Xa {r:Rec} (R:OkR r) {C:Cf} {X:Cx} {Γl:Option Gm} {Γ:Gm} {x:Str} {p pos:Pos} {e:Expr} {c:CS} (ok:Cok C X) (h:(if Ko e then (r.E C Γ e).bind fun c=>Of C x c else none)=some c):PS X (.Assign [.Name x p] e pos) (tS X.K C.F Γl Γ c.Γ c.js c.f):=by
 split at h
 ·rename_i hn;obtain ⟨c1,e1,h⟩:=bind_some' h;exact LY ok (R.E ok e1) (GY hn) h
 ·cases h
def Xs (r:Rec) (C:Cf) (Γl:Option Gm) (Γ:Gm) (s:Stmt):Option CS:=match s with
 | .Pass _=>some (Rq Γ)
 | .Expr (.Constant (.str _) _ _) _=>some (Rq Γ)
 | .Expr e _=>bp r C Γ e
 | .Return (some e) _=>fm r C Γ e
 | .Assign [.Name x _] (.ListComp elt gens scope _) _=>Yc r C Γ x elt gens scope
 | .Assign [.Name x _] e _=>if Ko e then (r.E C Γ e).bind fun c=>Of C x c else none
 | .Assign [.Tuple es k p] e _=>UD r C Γ es k p e
 | .Assign [.Subscript x k _] e _=>UF r C Γ x k e
 | .AugAssign (.Name x _) op e _=>gE r C Γ x op e
 | .If c a b _=>jO r C Γl Γ c a b
 | .For tg iter body [] _=>gB r C Γ tg iter body
 | .While c body [] _=>gU r C Γ c body
 | .Break _=>bx Γl Γ
 | .Continue _=>bq Γl Γ
 | _=>none
theorem Rf {r:Rec} (R:OkR r) {C:Cf} {X:Cx} {Γl:Option Gm} {Γ:Gm} {s:Stmt} {c:CS} (ok:Cok C X) (h:Xs r C Γl Γ s=some c):PS X s (tS X.K C.F Γl Γ c.Γ c.js c.f):=by
 cases s with
 | Pass _=>cases h;exact ZR
 | Expr e _ =>
  cases e with
  | Constant k _ _ =>
   cases k with
   | str _=>cases h;exact dS
   | _=>exact Og R ok h
  | _=>exact Og R ok h
 | Return v _ =>
  cases v with
  | none=>cases h
  | some e=>exact Wz R ok h
 | Assign ts e _ =>
  match ts,h with
  | [],h=>cases h
  | t::_::_,h=>cases t<;>cases h
  | [t],h =>
   cases t with
   | Name x _ =>
    cases e with
    | ListComp elt gens scope _=>exact UU R ok h
    | _=>exact Xa R ok h
   | Tuple es k p=>exact UC R ok h
   | Subscript x k _=>exact UE R ok h
   | _=>cases h
 | AugAssign t op e _ =>
  cases t with
  | Name x _=>exact XN R ok h
  | _=>cases h
 | If c a b _=>exact bo R ok h
 | For tg iter body o _ =>
  cases o with
  | nil=>exact XG R ok h
  | cons _ _=>cases h
 | While c body o _ =>
  cases o with
  | nil=>exact bS R ok h
  | cons _ _=>cases h
 | Break _=>exact XJ h
 | Continue _=>exact XH h
 | _=>cases h
def Re (r:Rec) (C:Cf) (Γl:Option Gm) (Γ:Gm) (ss:List Stmt):Option CS:=match ss with
 | []=>some (Rq Γ)
 | [s]=>r.S C Γl Γ s
 | s::ss=>(r.S C Γl Γ s).bind fun x=>match x.Γ with
  | none=>some x
  | some Γ'=>(r.Ss C Γl Γ' ss).bind fun y=>some ⟨y.Γ,x.js++y.js,fR x.f y.f,x.er || y.er,x.eb || y.eb,x.ec || y.ec⟩
theorem PD {r:Rec} (R:OkR r) {C:Cf} {X:Cx} {Γl:Option Gm} {Γ:Gm} {ss:List Stmt} {c:CS} (ok:Cok C X) (h:Re r C Γl Γ ss=some c):DM X ss (tS X.K C.F Γl Γ c.Γ c.js c.f):=by
 match ss,h with
 | [],h=>cases h;exact dR
 | [s],h=>exact dQ (R.S ok h)
 | s::s2::ss,h =>
  obtain ⟨x,e1,h⟩:=bind_some' (show (r.S C Γl Γ s).bind _=some c from h);have h1:=R.S ok e1;cases hx:x.Γ with
  | none =>
   simp only [hx] at h;cases h;rw [hx] at h1 ⊢;exact ZS h1
  | some Γ' =>
   simp only [hx] at h;obtain ⟨y,e2,h⟩:=bind_some' h;cases h;rw [hx] at h1;exact ZW (f:=x.f) (f2:=y.f) (js:=x.js) (js2:=y.js) h1 (R.Ss ok e2)
def step (r:Rec):Rec:=⟨Xt r,KG r,Xr r,Rh r,Xs r,Re r⟩
def comp:Nat->Rec
 | 0=>⟨fun _ _ _=>none,fun _ _ _ _=>none,fun _ _ _=>none,fun _ _ _ _=>none,fun _ _ _ _=>none,fun _ _ _ _=>none⟩
 | n+1=>step (comp n)
theorem Oc:∀ n,OkR (comp n)
 | 0=>⟨(fun _ h=>by cases h),(fun _ h=>by cases h),(fun _ h=>by cases h),(fun _ _ h=>by cases h),(fun _ h=>by cases h),(fun _ h=>by cases h),fun _ h=>by cases h⟩
 | n+1=>have R:=Oc n;⟨fun ok h=>Ri R ok h,fun ok h=>Rl R ok h,fun ok h=>Rc R ok h,fun tg ok h=>Rg R tg ok h,fun ok h=>Rf R ok h,fun ok h=>PD R ok h,fun ok h _ _ h0 hn=>PH R ok h h0 hn⟩
noncomputable def eV (sc:Scope):List Str:=sc.names.filterMap fun p=>match p.2 with | .local=>some p.1 | .cell=>some p.1 | _=>none
mutual
noncomputable def Aa:Expr->List Str
 | .ListComp e gs sc _=>eV sc++Aa e++Sh gs
 | .BoolOp _ vs _=>Bo vs
 | .BinOp a _ b _=>Aa a++Aa b
 | .UnaryOp _ a _=>Aa a
 | .IfExp a b c _=>Aa a++Aa b++Aa c
 | .Compare a _ bs _=>Aa a++Bo bs
 | .Call f es _ _=>Aa f++Bo es
 | .Attribute a _ _=>Aa a
 | .Subscript a b _=>Aa a++Aa b
 | .Slice a b c _=>Gy a++Gy b++Gy c
 | .List es _=>Bo es
 | .Tuple es _ _=>Bo es
 | .Dict _ vs _=>Bo vs
 | .JoinedStr vs _=>Bo vs
 | .FormattedValue v _ _ _=>Aa v
 | _=>[]
noncomputable def Bo:List Expr->List Str
 | []=>[]
 | e::es=>Aa e++Bo es
noncomputable def Gy:Option Expr->List Str
 | none=>[]
 | some e=>Aa e
noncomputable def Sh:List Comprehension->List Str
 | []=>[]
 | ⟨_,it,ifs,_⟩::gs=>Aa it++Bo ifs++Sh gs
end
mutual
noncomputable def aS:Stmt->List Str
 | .Return v _=>Gy v
 | .Assign ts v _=>Bo ts++Aa v
 | .AugAssign t _ v _=>Aa t++Aa v
 | .Expr v _=>Aa v
 | .If c a b _=>Aa c++Do a++Do b
 | .For _ it b _ _=>Aa it++Do b
 | .While c b _ _=>Aa c++Do b
 | .Raise e _ _=>Gy e
 | _=>[]
noncomputable def Do:List Stmt->List Str
 | []=>[]
 | s::ss=>aS s++Do ss
end
noncomputable def Tq:List Str->List Str->List Str
 | [],acc=>acc
 | x::xs,acc=>if acc.contains x then Tq xs acc else Tq xs (acc++[x])
def AC (st:Stmt):List Str:=(As st).args.map (·.arg)
def Bn (st:Stmt):List Str:=Tq (AC st++eV (AH st)++Do (Ab st)) []
noncomputable def hd:(io:List Nat)->Jn Dv io->Dv
 | [],t=>t
 | _::_,t=>t.1
noncomputable def OF:(J:List Nat)->EF J->List Dv
 | [],_=>[]
 | [_],d=>[d]
 | _::j::J,t=>t.1::OF (j::J) t.2
def tl:(io:List Nat)->Jn Dv io->List Dv
 | [],_=>[]
 | i::io,t=>OF (i::io) t.2
theorem IP:∀ (J:List Nat) (m:M),OF J (AV J m)=J.map m.at
 | [],_=>rfl
 | [_],_=>rfl
 | i::j::J,m=>by
  show m.at i::OF (j::J) (AV (j::J) m)=_;rw [IP (j::J) m];rfl
theorem YK (io:List Nat) (d:Dv) (m:M):hd io (YG io d m)=d:=by cases io<;>rfl
theorem Xj (io:List Nat) (d:Dv) (m:M):tl io (YG io d m)=io.map m.at:=by
 cases io with
 | nil=>rfl
 | cons i io=>exact IP (i::io) m
def AS (ps:List Str) (io:List Nat) (ro:Nat) (nb:Bool) (F:List Dv->Option (Jn Dv io)):Sig where
 ps:=ps
 io:=io
 ro:=ro
 nb:=nb
 fn:=fun ds=>(F ds).bind fun t=>some (hd io t,tl io t)
 cps:=fun R ds k=>(F ds).bind fun t=>k (hd io t) (tl io t)
 eq:=fun R ds k=>by cases F ds<;>rfl
def kJ (io:List Nat):Kt (Jn Dv io):=⟨fun m=>some (YG io .non m),fun d m=>some (YG io d m),fun _=>none,fun _=>none⟩
end R
namespace L2
open PySem
abbrev Xm (l:W.OpenLaw) (n:Nat) (as:List Addr) (K:Params->W.Frag) (N:Nat):Prop:=
 W.LeftO l.row.prog (W.view l.prog (List.range n)) [] (fun s=>W.xlAt (W.view l.prog (List.range n)) [] s && W.recOk [] s) (fun s=>as.map s.heap.get?) (fun w=>(K w.params).map fun p=>some p.2) N
theorem mk_law {l:W.OpenLaw} {n:Nat} {N:Nat} {d:DefRec} {K:Params->W.Frag} {as:List Addr} (ws:l.wellSaid=true) (left:Xm l n as K N)
    (has:∀ P,as=(K P).map (·.1)) (hr:l.row.records=[]) (hdef:W.defOf (W.view l.prog (List.range n)) l.row.name=some (d,[])) (hp:l.row.prog.theDef l.row.name=some (d.params,d.body,d.scope)) (hk:W.kwWritten? d.params.kwonlyargs d.params.kw_defaults=some [])
    (hwr:(!l.row.writes || l.row.records.isEmpty)=true)
    (ok:(W.chainsOk (W.view l.prog (List.range n)) && W.opensWell l.row.prog && (W.frees l.row.toRowW && l.row.within.isEmpty))=true) (hb:l.row.prog.bare) (hw:l.row.toRowW.promised)
    (call:W.WalkO (W.view l.prog (List.range n)) [] (W.XL (W.view l.prog (List.range n)) []) (W.InK K) l.row.toRowW d [] fun f vs=>PySem.call f vs):l.Holds:=
  W.holds_law ws fun said=>W.holds_open (q:=W.view l.prog (List.range n)) (loose:=[]) (XP:=W.XL (W.view l.prog (List.range n)) []) (YP:=W.InK K) left (W.InK.of has) W.InK.keeps (fun s e=>W.xl_of s (lH.mp e).1) W.XL.keeps hdef hp hk (fun s e=>W.recFacts_nil hr) hwr said ok hb hw call
noncomputable abbrev ke (P:Params) (x:Str) (t:Tok) (v:Value):DictEntry:=⟨PyData.keyHash P x,.str x t,v⟩
noncomputable abbrev cO (x:Str) (t:Tok) (l a s:Int) (r1 r2:Addr) (v1 v2 v3:Value) (r3:Addr) (t2:Nat):Obj:=⟨.type "code", none,.fields #[.str x t,.str x (t+1),.str "/claim/cut.py" (t+2),.int l 0,.int a 0,.int 0 0,.int 0 0,.int s 0,.ref r1,.bool true,.int 181 0,.ref r2,v1,v2,v3,.ref r3,.int t2 0,.int l 0,.str "/claim/cut.py" (t2+1)],#[]⟩
noncomputable def bP:Stmt->Pos
 | .FunctionDef _ _ _ _ _ _ _ _ _ p=>p
 | _=>⟨0,0,0,0⟩
noncomputable def QO (K:W.Frag) (n:Str):Addr:=match W.nsIn K mainGlobals n with
 | some (some (.ref a))=>a
 | _=>0
noncomputable def Zq (K:W.Frag) (f:Addr):Value:=match K.lookup f with
 | some ⟨_,_,.func d,_⟩=>d.pyModule
 | _=>.none
noncomputable def Wt (K:W.Frag) (f:Addr):Value:=match K.lookup f with
 | some ⟨_,_,.func d,_⟩=>d.code
 | _=>.none
abbrev GF (K:W.Frag) (n:Str) (t:Stmt):Prop:=W.nsIn K mainGlobals n=some (some (.ref (QO K n))) /\
 K.lookup (QO K n)=some ⟨.type "function", none,.func (W.fnOf n n (As t) (Ab t) (AH t) .none .none .none (Zq K (QO K n)) none (Wt K (QO K n)) .none),#[]⟩ /\
 W.codeIn K (Wt K (QO K n)) n=true/\W.keepIn K (.ref (QO K n))=true
theorem Mi {K:W.Frag} {n:Str} {t:Stmt} (h:GF K n t):Fun K n n t (QO K n) (W.fnOf n n (As t) (Ab t) (AH t) .none .none .none (Zq K (QO K n)) none (Wt K (QO K n)) .none):=bA h.2.1 h.2.2.1 h.2.2.2
end L2
namespace R
open PySem L2
structure Md:Type 1 where
 T:Tb
 cs:List (Str×Dv)
 bl:List Str
def fh (M:Md) (fs:List (Str×Sig)) (st:Stmt) (io:List Nat) (ro:Nat):Cf:=⟨Bn st,AH st,fun _=>true,fs,M.cs,M.bl,M.T,⟨io,MG (Bn st).length io,ro⟩⟩
noncomputable def gz:Rec:=⟨fun _ _ _=>none,fun _ _ _ _=>none,fun _ _ _=>none,fun _ _ _ _=>none,fun _ _ _ _=>none,fun _ _ _ _=>none⟩
def cmp (n:Nat):Rec:=Nat.rec gz (fun _ r=>step r) n
theorem Tz:∀ n,cmp n=comp n
 | 0=>rfl
 | n+1=>by
  show step (cmp n)=step (comp n);rw [Tz n]
def VY (M:Md) (fs:List (Str×Sig)) (st:Stmt) (io:List Nat) (ro:Nat):Option CS:=(cmp 100).Ss (fh M fs st io ro) none (Wh (Bn st).length (AC st).length io) (Ab st)
def Rx (M:Md) (fs:List (Str×Sig)) (st:Stmt) (io:List Nat) (ro:Nat) (ds:List Dv):Option (Jn Dv io):=match VY M fs st io ro with
 | some c=>c.f (Jn Dv io) (ds++List.replicate ((Bn st).length - (AC st).length) .non) (kJ io)
 | none=>none
noncomputable def hZ:ScopeKind->Bool
 | .function=>true
 | _=>false
noncomputable def WK:NameKind->Bool
 | .free=>false
 | _=>true
def VV (N P:List Str) (sc:Scope):Bool:=hZ sc.kind && !sc.isCoroutine && !sc.isGenerator && decide N.Nodup && (N.take P.length == P) && (P.all fun x=>match sc.names.lookup x with | some .local=>true | some .cell=>true | _=>false) && sc.names.all fun y=>WK y.2
theorem Nq {N P:List Str} {sc:Scope} (h:VV N P sc=true):FnScope N P sc:=by
 unfold VV at h;simp only [jh,lD,decide_eq_true_eq,ka] at h;obtain ⟨⟨⟨⟨⟨⟨h1,h2⟩,h3⟩,h4⟩,h5⟩,h6⟩,h7⟩:=h;refine ⟨?_,h2,h3,h4,by simpa using h5,fun x hx=>?_,fun y hy z=>?_⟩
 ·cases q:sc.kind<;>first | rfl | (rw [q] at h1;cases h1)
 ·have:=h6 x hx;split at this
  ·rename_i e;exact .inl e
  ·rename_i e;exact .inr e
  ·cases this
 ·have:=h7 y hy;rw [z] at this;cases this
def Ex (M:Md) (fs:List (Str×Sig)) (st:Stmt) (io:List Nat) (ro:Nat):Bool:=VV (Bn st) (AC st) (AH st) && decide io.Nodup && (io.all fun i=>decide (i < (AC st).length)) && decide ((AC st).length<=(Bn st).length) && match VY M fs st io ro with
 | some c=>JQ (some (MG (Bn st).length io)) c.Γ
 | none=>false
section
variable {P:Program} {w:World} {K:W.Frag} {mg:Str->Option Value} {base:Heap}
structure Bs (M:Md) (K:W.Frag) (mg:Str->Option Value):Prop where
 cs:∀ x d,(x,d)∈M.cs->∃ v u,mg x=some u/\RelV v u/\∀ g H,Rep K g H 0 d v nop
 bl:∀ x∈M.bl,mg x=none
def Fs (P:Program) (w:World) (K:W.Frag) (mg:Str->Option Value) (base:Heap) (k:Nat) (fs:List (Str×Sig)):Prop:=∀ x s,(x,s)∈fs->s.io.Nodup/\(∀ i∈s.io,i < s.ps.length)/\∃ j,j<=k/\Fx P w K mg base j x s.ps (Nm K s)
theorem Fs.nil {k:Nat}:Fs P w K mg base k []:=fun _ _ h=>by cases h
theorem Fs.cons {k:Nat} {x:Str} {s:Sig} {fs:List (Str×Sig)} (h:Fs P w K mg base k fs) (h1:s.io.Nodup) (h2:∀ i∈s.io,i < s.ps.length) (h3:Fx P w K mg base (k+1) x s.ps (Nm K s)):Fs P w K mg base (k+1) ((x,s)::fs):=fun y t q=>by
 rcases kZ.mp q with q | q
 ·cases q;exact ⟨h1,h2,k+1,ju _,h3⟩
 ·obtain ⟨a,b,j,hj,f⟩:=h y t q;exact ⟨a,b,j,by omega,f⟩
theorem Mv {M:Md} {k:Nat} {fs:List (Str×Sig)} {x:Str} {st:Stmt} {f:Addr} {fd:FuncData} {io:List Nat} {ro:Nat} {nb:Bool} {F:List Dv->Option (Jn Dv io)} (b:Bs M K mg) (h:Fs P w K mg base k fs) (c:Ex M fs st io ro=true) (hF:∀ ds,ds.length=(AC st).length->Rx M fs st io ro ds=F ds)
    (Fn:Fun K x x st f fd):FnOk P w K mg base Qw (k+1) f fd (AC st) (Nm K (AS (AC st) io ro nb F)):=by
  unfold Ex at c;simp only [jh,decide_eq_true_eq,ka] at c;obtain ⟨⟨⟨⟨c1,c2⟩,c3⟩,c4⟩,c5⟩:=c;cases e:VY M fs st io ro with
  | none=>rw [e] at c5;cases c5
  | some cs =>
    rw [e] at c5;have S:=Nq c1;refine fM (s:=AS (AC st) io ro nb F) (N:=Bn st) (body:=cs.f) (Γn:=cs.Γ) (js:=cs.js) Fn S c2 c3 c4 c5 (fun cdv A outer s' H E hr=>?_) fun ds d bs hl hf=>?_
    · have ok:Cok (fh M fs st io ro) (LR Qw P w K mg base (Bn st) x (AH st) f cdv A outer s' H E).nox:=⟨rfl,rfl,S.nd,rfl,fun _ _=>rfl,⟨rfl,k,hr⟩,fun y t q=>by
        obtain ⟨a,b,j,hj,q⟩:=h y t q;exact ⟨a,b,j,k,hj,hr,q⟩,b.cs,b.bl,rfl⟩
      unfold VY at e;rw [Tz] at e;exact (Oc 100).Ss ok e
    · have hr:=hF ds hl;unfold Rx at hr;rw [e] at hr;obtain ⟨t,e1,e2⟩:=bind_some' (show (F ds).bind _=some (d,bs) from hf);cases e2;refine ⟨_,kJ io,t,hr.trans e1,fun m z=>?_,fun d' m z=>?_⟩
      · have z:some (YG io .non m)=some t:=z;cases z;exact ⟨YK io _ m,Xj io _ m⟩
      · have z:some (YG io d' m)=some t:=z;cases z;exact ⟨YK io _ m,Xj io _ m⟩
abbrev Ao (x:Str) (st:Stmt):Prop:=∀ (kV doc pm:Value) (an:Option Addr) (cdv ct:Value) (us:List Value),us.length=(AC st).length->bindArgs (W.fnOf x x (As st) (Ab st) (AH st) .none kV doc pm an cdv ct) ⟨us,[]⟩=pure ((AC st).zip us)
theorem Fe {M:Md} {fs:List (Str×Sig)} {st:Stmt} {io:List Nat} {ro:Nat} (c:Ex M fs st io ro=true):io.Nodup/\∀ i∈io,i < (AC st).length:=by
 unfold Ex at c;simp only [jh,decide_eq_true_eq,ka] at c;exact ⟨c.1.1.1.2,c.1.1.2⟩
theorem Fs.def {M:Md} {k:Nat} {fs:List (Str×Sig)} {x:Str} {st:Stmt} {io:List Nat} {ro:Nat} {nb:Bool} {F:List Dv->Option (Jn Dv io)} (h:Fs P w K mg base k fs) (b:Bs M K mg) (c:Ex M fs st io ro=true) (hF:∀ ds,ds.length=(AC st).length->Rx M fs st io ro ds=F ds)
    (gf:GF K x st) (hm:mg x=some (.ref (QO K x))) (hb:Ao x st):Fs P w K mg base (k+1) ((x,AS (AC st) io ro nb F)::fs):=
  h.cons (Fe c).1 (Fe c).2 ⟨_,_,Mv b h c hF (Mi gf),hm,gf.2.2.2,(Mi gf).binds hb⟩
theorem Fs.defR {M:Md} {k:Nat} {fs:List (Str×Sig)} {x:Str} {st:Stmt} {io:List Nat} {ro:Nat} {nb:Bool} {F:Nat->List Dv->Option (Jn Dv io)} (h:Fs P w K mg base k fs) (b:Bs M K mg) (c0:VV (Bn st) (AC st) (AH st)=true) (h0:∀ ds,F 0 ds=none) (c:∀ n,Ex M ((x,AS (AC st) io ro nb (F n))::fs) st io ro=true)
    (hF:∀ n ds,ds.length=(AC st).length->Rx M ((x,AS (AC st) io ro nb (F n))::fs) st io ro ds=F (n+1) ds)
    (gf:GF K x st) (hm:mg x=some (.ref (QO K x))) (hb:Ao x st):∀ n,Fs P w K mg base (k+n+1) ((x,AS (AC st) io ro nb (F n))::fs)
  | 0=>h.cons (Fe (c 0)).1 (Fe (c 0)).2 ⟨_,_,(Mi gf).ok (k:=k) (Nq c0) (fun vs H Q E q=>by
      obtain ⟨g,ds,P,r,d,bs,e,q⟩:=q;have e:(F 0 ds).bind _=some (d,bs):=e;rw [h0 ds] at e;cases e) (fun cdv A outer s H vs Q E _ q=>by
      obtain ⟨g,ds,P,r,d,bs,e,q⟩:=q;have e:(F 0 ds).bind _=some (d,bs):=e;rw [h0 ds] at e;cases e),hm,gf.2.2.2,(Mi gf).binds hb⟩
  | n+1=>by
    have ih:=Fs.defR h b c0 h0 c hF gf hm hb n;have hh:Fs P w K mg base (k+n+1) fs:=fun y t q=>ih y t (kB _ q)
    exact hh.cons (Fe (c 0)).1 (Fe (c 0)).2 ⟨_,_,Mv b ih (c n) (hF n) (Mi gf),hm,gf.2.2.2,(Mi gf).binds hb⟩
theorem NN {x:Str} {st:Stmt} (hn:(AC st).length=1) (h:∀ (kV doc pm:Value) (an:Option Addr) (cdv ct:Value) (a:Value),bindArgs (W.fnOf x x (As st) (Ab st) (AH st) .none kV doc pm an cdv ct) ⟨[a],[]⟩=pure ((AC st).zip [a])):Ao x st:=fun kV doc pm an cdv ct us hl=>by
 rw [hn] at hl
 match us,hl with | [a],_=>exact h kV doc pm an cdv ct a
theorem Ld {x:Str} {st:Stmt} (hn:(AC st).length=2) (h:∀ (kV doc pm:Value) (an:Option Addr) (cdv ct:Value) (a b:Value),bindArgs (W.fnOf x x (As st) (Ab st) (AH st) .none kV doc pm an cdv ct) ⟨[a,b],[]⟩=pure ((AC st).zip [a,b])):Ao x st:=fun kV doc pm an cdv ct us hl=>by
 rw [hn] at hl
 match us,hl with | [a,b],_=>exact h kV doc pm an cdv ct a b
theorem cD {x:Str} {st:Stmt} (hn:(AC st).length=3) (h:∀ (kV doc pm:Value) (an:Option Addr) (cdv ct:Value) (a b c:Value),bindArgs (W.fnOf x x (As st) (Ab st) (AH st) .none kV doc pm an cdv ct) ⟨[a,b,c],[]⟩=pure ((AC st).zip [a,b,c])):Ao x st:=fun kV doc pm an cdv ct us hl=>by
 rw [hn] at hl
 match us,hl with | [a,b,c],_=>exact h kV doc pm an cdv ct a b c
theorem cC {x:Str} {st:Stmt} (hn:(AC st).length=4) (h:∀ (kV doc pm:Value) (an:Option Addr) (cdv ct:Value) (a b c d:Value),bindArgs (W.fnOf x x (As st) (Ab st) (AH st) .none kV doc pm an cdv ct) ⟨[a,b,c,d],[]⟩=pure ((AC st).zip [a,b,c,d])):Ao x st:=fun kV doc pm an cdv ct us hl=>by
 rw [hn] at hl
 match us,hl with | [a,b,c,d],_=>exact h kV doc pm an cdv ct a b c d
noncomputable def MW (K:W.Frag) (x:Str):Bool:=match W.nsIn K mainGlobals x with | some none=>true | _=>false
theorem gF {M:Md} {h:Heap} (X:K.In h) (G:h.Ns mainGlobals mg) (hc:M.cs=[]) (hz:M.bl.all (MW K)=true):Bs M K mg:=⟨(fun x d q=>by rw [hc] at q;cases q),fun x hx=>by
 have:=(ka.mp hz) x hx;unfold MW at this;split at this
 ·rename_i e;exact W.mg_none_of X G e
 ·cases this⟩
noncomputable def El {α:Type} (f:Dv->Dv->Dv->Dv->Option α) (ds:List Dv):Option α:=match ds with | [a,b,c,d]=>f a b c d | _=>none
noncomputable def GV {α:Type} (f:Dv->Dv->Dv->Option α) (ds:List Dv):Option α:=match ds with | [a,b,c]=>f a b c | _=>none
theorem cj {α:Type}:∀ ds,GV (fun _ _ _=>(none:Option α)) ds=none
 | []=>rfl | [_]=>rfl | [_,_]=>rfl | [_,_,_]=>rfl | _::_::_::_::_=>rfl
theorem YL {α:Type}:∀ ds,El (fun _ _ _ _=>(none:Option α)) ds=none
 | []=>rfl | [_]=>rfl | [_,_]=>rfl | [_,_,_]=>rfl | [_,_,_,_]=>rfl | _::_::_::_::_::_=>rfl
abbrev Ha (M:Md) (fs:List (Str×Sig)) (st:Stmt) (io:List Nat) (ro:Nat) (f:List Dv->Option (Jn Dv io)):Prop:=∀ ds,ds.length=(AC st).length->Rx M fs st io ro ds=f ds
theorem Ye {α:Type} {G:List Dv->Option α} {f:Dv->Option α} {n:Nat} (hn:n=1) (h:∀ a,G [a]=f a):∀ ds,ds.length=n->G ds=one f ds:=fun ds hl=>by
 subst hn
 match ds,hl with | [a],_=>exact h a
theorem Yd {α:Type} {G:List Dv->Option α} {f:Dv->Dv->Option α} {n:Nat} (hn:n=2) (h:∀ a b,G [a,b]=f a b):∀ ds,ds.length=n->G ds=two f ds:=fun ds hl=>by
 subst hn
 match ds,hl with | [a,b],_=>exact h a b
theorem iZ {α:Type} {G:List Dv->Option α} {f:Dv->Dv->Dv->Option α} {n:Nat} (hn:n=3) (h:∀ a b c,G [a,b,c]=f a b c):∀ ds,ds.length=n->G ds=GV f ds:=fun ds hl=>by
 subst hn
 match ds,hl with | [a,b,c],_=>exact h a b c
theorem iY {α:Type} {G:List Dv->Option α} {f:Dv->Dv->Dv->Dv->Option α} {n:Nat} (hn:n=4) (h:∀ a b c d,G [a,b,c,d]=f a b c d):∀ ds,ds.length=n->G ds=El f ds:=fun ds hl=>by
 subst hn
 match ds,hl with | [a,b,c,d],_=>exact h a b c d
def Nl (K:W.Frag):Sp:=fun vs H Q _=>∃ (a:Addr) (ns:List Int),vs=[.ref a]/\CB K H a (ns.map V.int)/\ns.length<=63/\Xd H/\∀ H',Q (.bl true) H'
theorem aa {k:Nat} {f:Addr} {fd:FuncData} {ps:List Str} {nb:Bool} {F:List Dv->Option Dv} (hp:ps.length=1) (h0:FnOk P w K mg base Qw k f fd ps (Nm K (AS ps [] 1 nb F))) (h:∀ ns:List Int,ns.length<=63->F [.scr ns]=some (.bl true)):FnOk P w K mg base Qw k f fd ps (Nl K):=h0.imp fun vs H Q E q=>by
 obtain ⟨a,ns,rfl,hS,hn,hO,q⟩:=q;have hs:Scr K H a ns:=by
  rcases hS with (h1 | h1) | h1
  ·rcases hO a with z | ⟨o,xs,z⟩
   ·rw [h1] at z;cases z
   ·rw [h1] at z;cases z
  ·exact .inl h1
  ·exact .inr h1
 refine ⟨⟨fun _=>False,[]⟩,[.scr ns],nop,?_,.bl true,[],by show (F [.scr ns]).bind _=_;rw [h ns hn];rfl,fun g' H' v Pv Pb _ rv _ _=>by rw [rep_bl rv];exact q H'⟩;show Rel K _ H (Qy ps.length []) _ _ _;rw [hp];refine ⟨?_,fun _=>nop,⟨rfl,rfl,fun i o e=>?_,fun i e a z=>z,fun i j n a z=>z.elim⟩,fun a=>⟨fun z=>z.elim,fun ⟨i,z⟩=>z⟩⟩
 ·exact fun _ z=>z.elim
 ·match i,e with
  | 0,e=>cases e;exact ⟨_,_,rfl,rfl,by unfold Rep;exact ⟨⟨a,rfl,hs⟩,fun _ z=>z⟩⟩
end
end R
namespace L4
open PySem PySem.Spec PyProof.Rows L2 Builtin
theorem FV:fillsNumberSlot (.type "tuple") "mul" = pure false:=
 PySem.fillsNumberSlot_seq (id := "tuple.__mul__") (r:=some (.builtin "tuple.__rmul__")) F.slot_tuple_mul.lookup (by decide +kernel) F.slot_tuple_rmul.lookup (by decide +kernel)
theorem JJ:seqRepeat? (.type "tuple")=pure (some (.builtin "tuple.__mul__")):=by
 unfold seqRepeat?
 rw [PySem.seqSlot_of (T := "tuple") (name := "__mul__") (id := "tuple.__mul__") F.slot_tuple_mul.lookup (by decide +kernel),PySem.seqSlot_of (T := "tuple") (name := "__rmul__") (id := "tuple.__rmul__") F.slot_tuple_rmul.lookup (by decide +kernel)]
 rfl
theorem HG (a:Int) (t:Tok) (l:Addr) (items:Array Value) (n:Nat) :
    Meets (Builtin.«int.__rmul__» ⟨[.int a t,.ref l],[]⟩) (fun _ R s=>(∃ o,s.heap.get? l=some o/\o.cls=.type "tuple" /\ o.data=.seq items n)/\R (.ok (.ret Value.notImplemented)) s):=
  .of_wp fun prog w A R s h=>by
    obtain ⟨hp,g,d,tk,os⟩:=s;obtain ⟨⟨⟨c,dd,dat,sl⟩,hl,hc,hd⟩,h⟩:=h;simp only at hc hd;subst hc;subst hd
    wp_walk;exact ⟨_,rfl,h⟩
theorem GU (l:Addr) (items:Array Value) (n:Nat) (x:Int) (u:Tok) (h1:1 < x) (h2:x < 2 ^ 63) (hz:items.size * x.toNat<=1000000) (hne:items.isEmpty=false) :
    Meets (Builtin.«tuple.__mul__» ⟨[.ref l,.int x u],[]⟩) (fun _ R s=>(∃ o,s.heap.get? l=some o/\o.cls=.type "tuple" /\ o.data=.seq items n)/\R (.ok (.ret (Value.ref s.heap.objs.size))) { s with heap:=s.heap.push { cls:=Value.type "tuple", data:=Data.seq ((List.replicate x.toNat items).foldl (·++·) #[]) },toks:=s.toks }):=
  .of_wp fun prog w A R s h=>by
    obtain ⟨hp,g,d,tk,os⟩:=s;obtain ⟨⟨⟨c,dd,dat,sl⟩,hl,hc,hd⟩,h⟩:=h;simp only at hc hd;subst hc;subst hd;have hz':(items.size:Int) * x<=1000000:=by
      have e:x=(x.toNat:Int):=by omega
      rw [e,<- Int.natCast_mul];omega
    wp_walk
    refine wpAny_ite_false (by simp;omega) ?_
    wp_walk
    refine wpAny_ite_false (by rw [hne];simp;omega) ?_
    wp_walk
    refine wpAny_ite_false (by rw [hne];simp;omega) ?_
    wp_walk
    refine wpAny_ite_false (decide_eq_false (by have : ((2 : Int) ^ 63 - 1) / 8 > 1000000 := by decide
                                                omega)) ?_
    wp_walk
    refine wpAny_ite_false (decide_eq_false (by unfold Tuple.tupleTooMany;rw [decide_eq_true_eq,sizeLine_eq];omega)) ?_
    wp_walk
    refine wpAny_ite_false (decide_eq_false (by rw [AutoListH.size_joined,sizeLine_eq];simp only [Array.size_empty];have:=Nat.mul_comm items.size x.toNat;omega)) ?_
    wp_walk
    exact ⟨_,rfl,h⟩
theorem Hb (l:Addr) (items:Array Value) (n:Nat) (u:Tok) :
    Meets (Builtin.«tuple.__mul__» ⟨[.ref l,.int 1 u],[]⟩) (fun _ R s=>(∃ o,s.heap.get? l=some o/\o.cls=.type "tuple" /\ o.data=.seq items n)/\R (.ok (.ret (Value.ref l))) s):=
  .of_wp fun prog w A R s h=>by
    obtain ⟨hp,g,d,tk,os⟩:=s;obtain ⟨⟨⟨c,dd,dat,sl⟩,hl,hc,hd⟩,h⟩:=h;simp only at hc hd;subst hc;subst hd
    wp_walk
    exact ⟨_,rfl,h⟩
def rRepT:R2:=fun x y H Q=>∃ l k xs,x=.ref l/\y=.int k/\H l=some (.tup xs)/\xs≠[]/\1<=k/\k < 2 ^ 63/\xs.length * k.toNat<=1000000/\(k=1->Q (.ref l) H) /\
 (k≠1->∀ p,H p=none->Q (.ref p) (upd H p (.tup (List.replicate k.toNat xs).flatten)))
theorem op_repT {X:Cx}:CQ X (binaryOp .Mult) rRepT:=by
  intro pins s σ H x y v u Q I rx ry h;obtain ⟨l,k,xs,rfl,rfl,hH,hne,h1,h2,hz,q1,q2⟩:=h;cases rx;obtain ⟨t,rfl⟩:=ry;obtain ⟨its,r,⟨o,e,c,n,dt⟩,_⟩:=I.tuple (show Cr X.K H l xs from .inl (.inl hH));have hl:its.length=xs.length:=r.length.symm
  have ho:∃ o,s.heap.get? l=some o/\o.cls=.type "tuple" /\ o.data=.seq its.toArray n:=⟨o,e,c,dt⟩
  have em:its.toArray.isEmpty=false:=by
    cases its with
    | nil=>cases xs with
      | nil=>exact absurd rfl hne
      | cons _ _=>simp at hl
    | cons _ _=>rfl
  refine wpAny_binaryOp_repeat_ref (T := "tuple") (U := "int") (by decide) ⟨_,e,c⟩ (fun s'=>typeIs_int s' k t) FV F.fills_int_mul F.slot_int_rmul JJ F.slot_int_index.lookup
    (call_meets F.slot_int_rmul (typeIs_int s k t) F.entry_int_rmul (F.args_int_rmul_2 _ _) (HG k t l its.toArray n)
      ⟨ho,rfl,⟨_,e,c⟩,?_⟩)
  by_cases hk:k=1
  · subst hk;exact call_meets F.slot_tuple_mul ⟨_,e,c⟩ F.entry_tuple_mul (F.args_tuple_mul_2 _ _) (Hb l its.toArray n t) ⟨ho,.ref l,H,I,rfl,q1 rfl⟩
  · refine call_meets F.slot_tuple_mul ⟨_,e,c⟩ F.entry_tuple_mul (F.args_tuple_mul_2 _ _) (GU l its.toArray n k t (by omega) h2 (by rw [jq,hl];exact hz) em) ⟨ho,?_⟩;have f0:List.foldl (fun x1 x2=>x1++x2) #[] (List.replicate k.toNat its.toArray)=(List.replicate k.toNat its).flatten.toArray:=by
      have:=foldl_rep its k.toNat [];rw [mD] at this;exact this
    rw [f0];refine ⟨.ref _,_,I.laid (t':=s.toks) (fun _ _ q=>jm _ q) (ju _) (o:=.tup (List.replicate k.toNat xs).flatten) ⟨?_,_,r.rep k.toNat,GH.new _ _⟩,rfl,q2 hk _ I.fresh⟩;rw [len_rep,Nat.mul_comm];exact kM hz (by decide)
end L4
namespace R
open PySem L2
section
variable {K:W.Frag} {g:G} {H:Hp}
theorem RA.nil {vs:List V} (h:RA K g H [] vs):vs=[]:=by unfold RA at h;exact h
theorem RA.cons {d:Dv} {ds:List Dv} {vs:List V} (h:RA K g H (d::ds) vs):∃ v r o P,vs=v::r/\o<=1/\Rep K g H o d v P/\RA K g H ds r:=by unfold RA at h;exact h
theorem RA.one {d:Dv} {vs:List V} (h:RA K g H [d] vs):∃ v o P,vs=[v]/\o<=1/\Rep K g H o d v P:=by
 obtain ⟨v,r,o,P,rfl,ho,h1,h2⟩:=h.cons;cases h2.nil;exact ⟨v,o,P,rfl,ho,h1⟩
theorem RA.two {d e:Dv} {vs:List V} (h:RA K g H [d,e] vs):∃ v o P w u R,vs=[v,w]/\o<=1/\Rep K g H o d v P/\u<=1/\Rep K g H u e w R:=by
 obtain ⟨v,r,o,P,rfl,ho,h1,h2⟩:=h.cons;obtain ⟨w,u,R,rfl,hu,h3⟩:=h2.one;exact ⟨v,o,P,w,u,R,rfl,ho,h1,hu,h3⟩
theorem rep_str {o:Nat} {l:List Nat} {v:V} {P:Fp} (h:Rep K g H o (.str l) v P):v=.str (tx l):=by unfold Rep at h;exact h.1
theorem rep_non {o:Nat} {v:V} {P:Fp} (h:Rep K g H o .non v P):v=.non:=by unfold Rep at h;exact h.1
theorem DE {o:Nat} {xs:List Dv} {v:V} {P:Fp} (ho:o<=1) (h:Rep K g H o (.lst xs) v P):∃ a us,v=.ref a/\CB K H a us/\Reps K g H 0 xs us nop/\H a=some (.lst us):=by
 unfold Rep at h;obtain ⟨a,us,P',rfl,h1,h2,_⟩:=h;rw [mP ho] at h2;exact ⟨a,us,rfl,.inl (.inl h1.1),h2.z,h1.1⟩
theorem Dz {o:Nat} {xs:List Dv} {v:V} {P:Fp} (ho:o<=1) (h:Rep K g H o (.tup xs) v P):∃ a us,v=.ref a/\Cr K H a us/\Reps K g H 0 xs us nop/\H a=some (.tup us):=by
 unfold Rep at h;obtain ⟨a,us,rfl,h1,h2⟩:=h;rw [mP ho] at h2;exact ⟨a,us,rfl,.inl (.inl h1),h2.z,h1⟩
theorem KN {o:Nat} {ns:List Int} {v:V} {P:Fp} (h:Rep K g H o (.scr ns) v P):∃ a,v=.ref a/\CB K H a (ns.map V.int):=by
 unfold Rep at h;obtain ⟨⟨a,rfl,h1⟩,_⟩:=h;exact ⟨a,rfl,h1.sq⟩
theorem Dm {o:Nat} (ho:o<=1) {a:Addr} {xs:List Dv} {us:List V} (h1:H a=some (.tup us)) (h2:Reps K g H 0 xs us nop):Rep K g H o (.tup xs) (.ref a) nop:=by
 unfold Rep;rw [mP ho];exact ⟨a,us,rfl,h1,h2⟩
theorem AW.int {o:Nat} (i:Int):AW K g H o (.int i) (.int i) H:=AW.old BG
theorem AW.bl {o:Nat} (b:Bool):AW K g H o (.bl b) (.bl b) H:=AW.old CM
theorem AW.str {o:Nat} (l:List Nat):AW K g H o (.str l) (.str (tx l)) H:=AW.old (by unfold Rep;exact ⟨rfl,fun _ z=>z⟩)
theorem AW.tup {o:Nat} (ho:o<=1) {xs:List Dv} {vs:List V} {p:Addr} (hp:H p=none) (h:Reps K g H 0 xs vs nop):AW K g H o (.tup xs) (.ref p) (upd H p (.tup vs)):=
 have sm:=DT hp (.tup vs)
 ⟨sm,nop,Dm ho BS (h.held (Step.same (g:=g) (P:=nop) sm) FpOk.nop fun _ z=>z.elim),fun _ z=>z.elim⟩
theorem FQ {xs:List Dv} {vs:List V} (h:Reps K g H 0 xs vs nop):∀ n,Reps K g H 0 (List.replicate n xs).flatten (List.replicate n vs).flatten nop
 | 0=>by simpa using Reps.nil
 | n+1=>by
  rw [lE,lE,lR,lR];exact Bz h (FQ h n)
theorem MJ {xs:List Dv} {vs:List V} (n:Nat) (h:Reps K g H 0 xs vs nop):Reps K g H 0 (xs.drop n) (vs.drop n) nop:=by
 have h0:=CL.mp h;exact CL.mpr ⟨by simp [h0.1],fun i d v e1 e2=>h0.2 (n+i) d v (by simpa using e1) (by simpa using e2)⟩
theorem MH {xs:List Dv} {vs:List V} (n:Nat) (h:Reps K g H 0 xs vs nop):Reps K g H 0 (xs.take n) (vs.take n) nop:=by
 have h0:=CL.mp h;refine CL.mpr ⟨by simp [h0.1],fun i d v e1 e2=>?_⟩;rw [List.getElem?_take] at e1 e2;split at e1
 ·rename_i hi;rw [if_pos hi] at e2;exact h0.2 i d v e1 e2
 ·cases e1
theorem IG {xs:List Dv} {vs:List V} (h:Reps K g H 0 xs vs nop):Reps K g H 0 xs.reverse vs.reverse nop:=by
 have h0:=CL.mp h;refine CL.mpr ⟨by simp [h0.1],fun i d v e1 e2=>?_⟩;have hi:i < xs.length:=by simpa using (jo.mp e1).1
 rw [lO hi] at e1;rw [lO (by rw [<- h0.1];exact hi),<- h0.1] at e2;exact h0.2 _ d v e1 e2
theorem CK (ns:List Int):Reps K g H 0 (ns.map .int) (ns.map V.int) nop:=CL.mpr ⟨by simp,fun i d v e1 e2=>by
 rw [kN] at e1 e2;cases q:ns[i]? with
 | none=>rw [q] at e1;cases e1
 | some k=>rw [q] at e1 e2;cases e1;cases e2;exact BG⟩
def cutA {α:Type} (xs:List α) (lo hi:Option Int):List α:=(xs.drop (HT.sIx xs.length 0 lo)).take (HT.sIx xs.length xs.length hi - HT.sIx xs.length 0 lo)
theorem map_cut {α β:Type} (f:α->β) (xs:List α) (lo hi:Option Int):(cutA xs lo hi).map f=cutA (xs.map f) lo hi:=by
 unfold cutA;rw [mZ,List.map_drop,jv]
theorem atI_map {α β:Type} {f:α->β} {xs:List α} {i:Int}:ED (xs.map f) i=(ED xs i).map f:=by
 unfold ED;rw [jv];cases Me xs.length i with
 | none=>rfl
 | some j=>show (xs.map f)[j]?=_;rw [kN];rfl
theorem FS {xs:List Dv} {vs:List V} (lo hi:Option Int) (h:Reps K g H 0 xs vs nop):Reps K g H 0 (cutA xs lo hi) (Ep vs lo hi) nop:=by
 unfold cutA Ep;rw [h.len];exact MH _ (MJ _ h)
theorem KU {xs:List Dv} {vs:List V} {i:Int} {d:Dv} (h:Reps K g H 0 xs vs nop) (e:ED xs i=some d):∃ v,ED vs i=some v/\Rep K g H 0 d v nop:=by
 unfold ED at e ⊢;rw [h.len] at e;cases q:Me vs.length i with
 | none=>rw [q] at e;cases e
 | some j =>
  rw [q] at e;obtain ⟨v,R,e1,e2,_⟩:=h.get e;exact ⟨v,e1,e2.z⟩
noncomputable def BQ (C:Int->Int->Bool) (f:Int->Int->Int) (x y:Dv):Option Dv:=match x,y with | .int i,.int j=>if C i j=true then some (.int (f i j)) else none | _,_=>none
noncomputable def Bw (f:Int->Int->Bool) (x y:Dv):Option Bool:=match x,y with | .int i,.int j=>some (f i j) | _,_=>none
abbrev Ap:=BQ (fun _ _=>true) fun i j=>i - j
abbrev DL:=BQ (fun _ j=>decide (0 < j)) fun i j=>i % j
abbrev EE:=BQ (fun _ j=>decide (0 < j) && decide (j < 1073741824)) fun i j=>i / j
abbrev cK:=BQ (fun i j=>decide (0<=j) && decide (j<=1000000) && decide (i.natAbs < 2 ^ 64)) fun i j=>i ^ j.toNat
abbrev XY:=Bw fun i j=>decide (j < i)
abbrev jQ:=Bw fun i j=>decide (j<=i)
theorem GT {α:Type} {f:Dv->Dv->Option α} {ds:List Dv} {a:α} (h:two f ds=some a):∃ x y,ds=[x,y]/\f x y=some a:=by
 unfold two at h;split at h
 ·exact ⟨_,_,rfl,h⟩
 ·cases h
theorem Gv {f:Dv->Dv->Option Dv} {o:Nat} {r:R2} (h:∀ g H x y v w o1 o2 P R d Q,Zd g H->o1<=1->Rep K g H o1 x v P->o2<=1->Rep K g H o2 y w R->f x y=some d->(∀ v H',AW K g H o d v H'->Q v H')->r v w H Q):AG K (two f) o (Ht r):=fun g H ds vs d Q zd ra e k=>by
 obtain ⟨x,y,rfl,e⟩:=GT e;obtain ⟨v,o1,P,w,o2,R,rfl,h1,h2,h3,h4⟩:=ra.two;exact h g H x y v w o1 o2 P R d Q zd h1 h2 h3 h4 e k
theorem Eg {f:Dv->Dv->Option Bool} {r:R2} (h:∀ g H x y v w o1 o2 P R b (Q:VK),Zd g H->o1<=1->Rep K g H o1 x v P->o2<=1->Rep K g H o2 y w R->f x y=some b->Q (.bl b) H->r v w H Q):AG K (fun ds=>(two f ds).map .bl) 0 (Ht r):=fun g H ds vs d Q zd ra e k=>by
 have e:(two f ds).map Dv.bl=some d:=e;cases q:two f ds with
 | none=>rw [q] at e;cases e
 | some b =>
  rw [q] at e;cases e;obtain ⟨x,y,rfl,e2⟩:=GT q;obtain ⟨v,o1,P,w,o2,R,rfl,h1,h2,h3,h4⟩:=ra.two;exact h g H x y v w o1 o2 P R b Q zd h1 h2 h3 h4 e2 (k _ _ (AW.bl _))
theorem JM {C:Int->Int->Bool} {C':Int->Int->Prop} {f:Int->Int->Int} {o:Nat} (hc:∀ i j,C i j=true->C' i j):AG K (two (BQ C f)) o (Ht (rI C' fun i j=>.int (f i j))):=Gv fun g H x y v w o1 o2 P R d Q zd _ h1 _ h2 e k=>by
 unfold BQ at e;split at e
 ·split at e
  ·rename_i c;cases e;rw [rep_int h1,rep_int h2];exact ⟨_,_,rfl,rfl,hc _ _ c,k _ _ (AW.int _)⟩
  ·cases e
 ·cases e
theorem Vo {f:Int->Int->Int} {o:Nat}:AG K (two (BQ (fun _ _=>true) f)) o (Ht (PQ fun i j=>.int (f i j))):=Gv fun g H x y v w o1 o2 P R d Q zd _ h1 _ h2 e k=>by
 unfold BQ at e;split at e
 ·cases e;rw [rep_int h1,rep_int h2];exact ⟨_,_,rfl,rfl,k _ _ (AW.int _)⟩
 ·cases e
theorem OB {f:Int->Int->Bool}:AG K (fun ds=>(two (Bw f) ds).map .bl) 0 (Ht (PQ fun i j=>.bl (f i j))):=Eg fun g H x y v w o1 o2 P R b Q zd _ h1 _ h2 e k=>by
 unfold Bw at e;split at e
 ·cases e;rw [rep_int h1,rep_int h2];exact ⟨_,_,rfl,rfl,k⟩
 ·cases e
noncomputable def Am (x y:Dv):Option Dv:=match x,y with
 | .int i,.int j=>some (.int (i+j))
 | .str a,.str b=>if a.length+b.length<=1000000 then some (.str (a++b)) else none
 | .lst xs,.lst ys=>if xs.length+ys.length<=1000000 then some (.lst (xs++ys)) else none
 | .tup xs,.tup ys=>if xs.length+ys.length<=1000000 then some (.tup (xs++ys)) else none
 | _,_=>none
theorem Zp:AG K (two Am) 1 (Ht (KZ K)):=Gv fun g H x y v w o1 o2 P R d Q zd l1 h1 l2 h2 e k=>by
 unfold Am at e;split at e
 ·cases e;rw [rep_int h1,rep_int h2];exact Uh (k _ _ (AW.int _))
 ·split at e
  ·rename_i hl;cases e;rw [rep_str h1,rep_str h2];refine Ue (by rw [CF,CF];exact hl) ?_;rw [Ls];exact k _ _ (AW.str _)
  ·cases e
 ·split at e
  ·rename_i hl;cases e;obtain ⟨a,us,rfl,_,hx,ha⟩:=DE l1 h1;obtain ⟨b,ws,rfl,_,hy,hb⟩:=DE l2 h2;exact Ug ha hb (by rw [<- hx.len,<- hy.len];exact hl) fun p hp=>k _ _ (AW.lst zd (Bz hx hy) hp)
  ·cases e
 ·split at e
  ·rename_i hl;cases e;obtain ⟨a,us,rfl,ha,hx,ha'⟩:=Dz l1 h1;obtain ⟨b,ws,rfl,hb,hy,hb'⟩:=Dz l2 h2;have al:=Bz hx hy
   by_cases hu:us=[]
   ·subst hu;exact .inr ⟨a,b,ws,rfl,rfl,ha,hb,k _ _ (AW.old (Dm (ju 1) hb' al))⟩
   ·refine .inl (.inr (.inr (.inr ⟨a,b,us,ws,rfl,rfl,ha,hb,hu,by rw [<- hx.len,<- hy.len];exact kM hl (by decide),fun hw=>?_,fun _ p hp=>k _ _ (AW.tup (ju 1) hp al)⟩)));subst hw;rw [lB] at al;exact k _ _ (AW.old (Dm (ju 1) ha' al))
  ·cases e
 ·cases e
noncomputable def big (i:Int):Bool:=decide (-(2 ^ 64) < i) && decide (i < 2 ^ 64)
def DH (x y:Dv):Option Dv:=match x,y with
 | .int i,.int j=>if (big i || big j)=true then some (.int (i * j)) else none
 | .lst xs,.int k=>if xs.length * k.toNat<=1000000/\k < 1000000/\-1000000 < k then some (.lst (List.replicate k.toNat xs).flatten) else none
 | .tup xs,.int k=>if xs≠[]/\1<=k/\k < 1000000/\xs.length * k.toNat<=1000000 then some (.tup (List.replicate k.toNat xs).flatten) else none
 | _,_=>none
theorem Zk:AG K (two DH) 1 (Ht (fun x y H Q=>(rI Xf fun i j=>.int (i * j)) x y H Q\/dn x y H Q\/L4.rRepT x y H Q)):=Gv fun g H x y v w o1 o2 P R d Q zd l1 h1 l2 h2 e k=>by
 unfold DH at e;split at e
 ·split at e
  ·rename_i c;cases e;rw [rep_int h1,rep_int h2];refine .inl ⟨_,_,rfl,rfl,?_,k _ _ (AW.int _)⟩;rw [mT] at c;unfold big at c;rw [jh,jh,decide_eq_true_eq,decide_eq_true_eq,decide_eq_true_eq,decide_eq_true_eq] at c;exact c
  ·cases e
 ·split at e
  ·rename_i hl;cases e;obtain ⟨a,us,rfl,ha,hx,ha'⟩:=DE l1 h1;rw [rep_int h2];exact .inr (.inl ⟨a,_,us,rfl,rfl,ha',by omega,by omega,by rw [<- hx.len];exact kM hl.1 (by decide),fun p hp=>k _ _ (AW.lst zd (FQ hx _) hp)⟩)
  ·cases e
 ·split at e
  ·rename_i hl;cases e;obtain ⟨a,us,rfl,ha,hx,ha'⟩:=Dz l1 h1;rw [rep_int h2];refine .inr (.inr ⟨a,_,us,rfl,rfl,ha',?_,hl.2.1,by omega,by rw [<- hx.len];exact hl.2.2.2,fun z=>?_,fun _ p hp=>k _ _ (AW.tup (ju 1) hp (FQ hx _))⟩)
   ·intro z;have:=hx.len;rw [z] at this;exact hl.1 (kl this)
   ·subst z;have:∀ (l:List Dv),(List.replicate (Int.toNat 1) l).flatten=l:=fun l=>by simp
    rw [this] at k;exact k _ _ (AW.old (Dm (ju 1) ha' hx))
  ·cases e
 ·cases e
noncomputable def Ac (x:Dv):Option Dv:=match x with
 | .str l=>if l.length<=1000000 then some (.int l.length) else none
 | .lst xs=>some (.int xs.length)
 | .tup xs=>some (.int xs.length)
 | .scr ns=>some (.int ns.length)
 | .dct ks _=>some (.int ks.length)
 | _=>none
theorem Ei {α:Type} {f:Dv->Option α} {ds:List Dv} {a:α} (h:one f ds=some a):∃ x,ds=[x]/\f x=some a:=by
 unfold one at h;split at h
 ·exact ⟨_,rfl,h⟩
 ·cases h
theorem Ca {f:Dv->Option Dv} {o:Nat} {r:Os} (h:∀ g H x v o1 P d Q,Zd g H->o1<=1->Rep K g H o1 x v P->f x=some d->(∀ v H',AW K g H o d v H'->Q v H')->r [v] H Q):AG K (one f) o r:=fun g H ds vs d Q zd ra e k=>by
 obtain ⟨x,rfl,e⟩:=Ei e;obtain ⟨v,o1,P,rfl,h1,h2⟩:=ra.one;exact h g H x v o1 P d Q zd h1 h2 e k
theorem Zl {o:Nat}:AG K (one Ac) o (fun xs H Q=>PP K xs H Q\/Xz xs H Q):=Ca fun g H x v o1 P d Q zd l1 h1 e k=>by
 unfold Ac at e;split at e
 ·split at e
  ·rename_i l hl;cases e;rw [rep_str h1];refine .inl (QB (by rw [CF];exact hl) ?_);rw [CF];exact k _ _ (AW.int _)
  ·cases e
 ·cases e;obtain ⟨a,us,rfl,ha,hx,ha'⟩:=DE l1 h1;refine .inl (WU ha' ?_);rw [<- hx.len];exact k _ _ (AW.int _)
 ·cases e;obtain ⟨a,us,rfl,ha,hx,ha'⟩:=Dz l1 h1;refine .inl ⟨_,_,rfl,.inr ⟨us,ha,rfl⟩,?_⟩;rw [<- hx.len];exact k _ _ (AW.int _)
 ·cases e;obtain ⟨a,rfl,ha⟩:=KN h1;refine .inl (Sn ha ?_);rw [jv];exact k _ _ (AW.int _)
 ·cases e;obtain ⟨a,us,rfl,ha,hl,hx⟩:=Wi h1;refine .inr ⟨a,_,rfl,ha,?_⟩;rename_i ks xs;have:(ks.zip us).length=ks.length:=by rw [List.length_zip,hl,hx.len,mQ]
  rw [this];exact k _ _ (AW.int _)
 ·cases e
def AB (x y:Dv):Option Dv:=match x,y with
 | .lst xs,.int i=>ED xs i
 | .tup xs,.int i=>ED xs i
 | .scr ns,.int i=>(ED ns i).map .int
 | .str l,.int i=>if l.length<=1000000 then (ED l i).map fun c=>.str [c] else none
 | .dct ks ds,k=>(OG k).bind fun k=>LQ k ks ds
 | _,_=>none
theorem Zn:AG K (two AB) 0 (Ht fun x y H Q=>Za K x y H Q\/jG x y H Q):=Gv fun g H x y v w o1 o2 P R d Q zd l1 h1 l2 h2 e k=>by
 unfold AB at e;split at e
 ·obtain ⟨a,us,rfl,ha,hx,ha'⟩:=DE l1 h1;rw [rep_int h2];obtain ⟨u,e2,h3⟩:=KU hx e;exact .inl (Va ha' e2 (k _ _ (AW.old h3)))
 ·obtain ⟨a,us,rfl,ha,hx,ha'⟩:=Dz l1 h1;rw [rep_int h2];obtain ⟨u,e2,h3⟩:=KU hx e;exact .inl (.inr (.inl ⟨a,us,_,u,rfl,rfl,ha,e2,k _ _ (AW.old h3)⟩))
 ·rename_i ns i;obtain ⟨a,rfl,ha⟩:=KN h1;rw [rep_int h2];cases q:ED ns i with
  | none=>rw [q] at e;cases e
  | some j =>
   rw [q] at e;cases e;exact .inl (ZY ha (by rw [atI_map,q];rfl) (k _ _ (AW.int _)))
 ·rename_i l i;split at e
  ·rename_i hl;rw [rep_str h1,rep_int h2];cases q:ED l i with
   | none=>rw [q] at e;cases e
   | some c =>
    rw [q] at e;cases e;exact .inl (VZ (by rw [CF];exact hl) (by rw [GJ];exact q) (k _ _ (AW.str [c])))
  ·cases e
 ·obtain ⟨kk,ek,e⟩:=bind_some' e;obtain ⟨a,us,rfl,ha,hl,hx⟩:=Wi h1;obtain ⟨u,e2,h3⟩:=LP hx e;rw [JS h2 ek];exact .inr ⟨a,u,rfl,e2▸Jx.k ha,k _ _ (AW.old h3)⟩
 ·cases e
def Ey (x:Dv) (lo hi:Option Int):Option Dv:=match x with
 | .str l=>if l.length<=1000000 then some (.str (QV l lo hi)) else none
 | .lst xs=>some (.lst (cutA xs lo hi))
 | .tup xs=>some (.tup (cutA xs lo hi))
 | .scr ns=>some (.lst ((cutA ns lo hi).map .int))
 | _=>none
theorem eL (lo hi:Option Int):AG K (one fun d=>Ey d lo hi) 1 (cb fun x H Q=>PN K x lo hi H Q):=Ca fun g H x v o1 P d Q zd l1 h1 e k=>by
 show PN K v lo hi H Q;cases x with
 | str l =>
  simp only [Ey.eq_def] at e;split at e
  ·rename_i hl;cases e;rw [rep_str h1];refine VN (by rw [CF];exact hl) ?_;rw [RN];exact k _ _ (AW.str _)
  ·cases e
 | lst xs =>
  cases e;obtain ⟨a,us,rfl,ha,hx,ha'⟩:=DE l1 h1;exact VO ha' fun p hp=>k _ _ (AW.lst zd (FS lo hi hx) hp)
 | tup xs =>
  cases e;obtain ⟨a,us,rfl,ha,hx,ha'⟩:=Dz l1 h1;have al:=FS lo hi hx
  by_cases w:HT.sIx us.length 0 lo=0/\HT.sIx us.length us.length hi=us.length
  ·refine .inr ⟨a,us,rfl,ha,w,k _ _ (AW.old ?_)⟩;have ec:Ep us lo hi=us:=by unfold Ep;rw [w.1,w.2];simp
   rw [ec] at al;exact Dm (ju 1) ha' al
  ·exact .inl (.inr (.inr ⟨a,us,rfl,ha,w,fun p hp=>k _ _ (AW.tup (ju 1) hp al)⟩))
 | scr ns =>
  cases e;obtain ⟨a,rfl,ha⟩:=KN h1;refine ZI ha fun p hp=>k _ _ (AW.lst zd ?_ hp)
  rw [map_cut];exact FS lo hi (CK ns)
 | _=>cases e
end
mutual
noncomputable def toD:Dv->L3.D
 | .bl b=>.fl (.bl b)
 | .int i=>.fl (.int i)
 | .str l=>.fl (.str (tx l))
 | .tup xs=>.tup (toDs xs)
 | .lst xs=>.lst (toDs xs)
 | _=>.fl .non
noncomputable def toDs:List Dv->List L3.D
 | []=>[]
 | d::ds=>toD d::toDs ds
end
mutual
noncomputable def Dv.cmp:Dv->Bool
 | .non | .bl _ | .int _ | .str _=>true
 | .tup xs=>AN xs
 | .lst xs=>AN xs
 | _=>false
noncomputable def AN:List Dv->Bool
 | []=>true
 | d::ds=>d.cmp && AN ds
end
mutual
noncomputable def Dv.dep:Dv->Nat
 | .tup xs=>AX xs+1
 | .lst xs=>AX xs+1
 | _=>0
noncomputable def AX:List Dv->Nat
 | []=>0
 | d::ds=>max d.dep (AX ds)
end
mutual
noncomputable def eqV:Dv->Dv->Bool
 | .non,.non=>true
 | .bl a,.bl b=>a == b
 | .bl a,.int b=>(if a then 1 else 0) == b
 | .int a,.bl b=>a == (if b then 1 else 0)
 | .int a,.int b=>a == b
 | .str a,.str b=>a == b
 | .tup xs,.tup ys=>eqVs xs ys
 | .lst xs,.lst ys=>eqVs xs ys
 | _,_=>false
noncomputable def eqVs:List Dv->List Dv->Bool
 | [],[]=>true
 | x::xs,y::ys=>eqV x y && eqVs xs ys
 | _,_=>false
end
mutual
theorem LJ:∀ (d e:Dv),d.cmp=true->e.cmp=true->L3.eqD (toD d) (toD e)=eqV d e
 | .non,e,h,k | .bl _,e,h,k | .int _,e,h,k=>by cases e<;>first | (unfold toD L3.eqD eqV;rfl) | (unfold Dv.cmp at k;cases k)
 | .str l,e,h,k=>by
  cases e with
  | str m=>unfold toD L3.eqD eqV;rw [L2.eqV_str];exact (mU l m).symm
  | _=>first | (unfold toD L3.eqD eqV;rfl) | (unfold Dv.cmp at k;cases k)
 | .tup xs,e,h,k=>by
  cases e with
  | tup ys=>unfold toD L3.eqD eqV;unfold Dv.cmp at h k;exact Ms xs ys h k
  | _=>first | (unfold toD L3.eqD eqV;rfl) | (unfold Dv.cmp at k;cases k)
 | .lst xs,e,h,k=>by
  cases e with
  | lst ys=>unfold toD L3.eqD eqV;unfold Dv.cmp at h k;exact Ms xs ys h k
  | _=>first | (unfold toD L3.eqD eqV;rfl) | (unfold Dv.cmp at k;cases k)
 | .dct _ _,e,h,k | .ref _,e,h,k | .scr _,e,h,k | .ty _,e,h,k | .mtp _,e,h,k | .dti _,e,h,k=>by unfold Dv.cmp at h;cases h
theorem Ms:∀ (d e:List Dv),AN d=true->AN e=true->L3.eqDs (toDs d) (toDs e)=eqVs d e
 | [],[],_,_=>by unfold toDs L3.eqDs eqVs;rfl
 | [],_::_,_,_=>by simp only [toDs,L3.eqDs,eqVs]
 | _::_,[],_,_=>by simp only [toDs,L3.eqDs,eqVs]
 | x::xs,y::ys,h,k=>by
  unfold AN at h k;rw [jh] at h k;simp only [toDs,L3.eqDs,eqVs];rw [LJ x y h.1 k.1,Ms xs ys h.2 k.2]
end
mutual
theorem dep_D:∀ (d:Dv),(toD d).dep=d.dep
 | .non | .bl _ | .int _ | .str _ | .dct _ _ | .ref _ | .scr _ | .ty _ | .mtp _ | .dti _=>by unfold toD L3.D.dep Dv.dep;rfl
 | .tup xs=>by unfold toD L3.D.dep Dv.dep;rw [deps_D xs]
 | .lst xs=>by unfold toD L3.D.dep Dv.dep;rw [deps_D xs]
theorem deps_D:∀ (d:List Dv),L3.depL (toDs d)=AX d
 | []=>by unfold toDs L3.depL AX;rfl
 | x::xs=>by simp only [toDs,L3.depL,AX];rw [dep_D x,deps_D xs]
end
section
variable {K:W.Frag} {g:G} {H:Hp}
mutual
theorem Rep.is:∀ {o:Nat} {d:Dv} {v:V} {P:Fp},Rep K g H o d v P->d.cmp=true->L3.Is K H v (toD d)
 | _,.non,v,P,h,_=>by rw [rep_non h];unfold toD L3.Is;exact ⟨rfl,rfl⟩
 | _,.bl b,v,P,h,_=>by rw [rep_bl h];unfold toD L3.Is;exact ⟨rfl,rfl⟩
 | _,.int i,v,P,h,_=>by rw [rep_int h];unfold toD L3.Is;exact ⟨rfl,rfl⟩
 | _,.str l,v,P,h,_=>by rw [rep_str h];unfold toD L3.Is;exact ⟨rfl,rfl⟩
 | _,.tup xs,v,P,h,c=>by
  unfold Rep at h;obtain ⟨a,vs,rfl,h1,h2⟩:=h;unfold Dv.cmp at c;unfold toD L3.Is;exact ⟨a,vs,rfl,.inl (.inl h1),Reps.isL h2 c⟩
 | _,.lst xs,v,P,h,c=>by
  unfold Rep at h;obtain ⟨a,vs,P',rfl,h1,h2,_⟩:=h;unfold Dv.cmp at c;unfold toD L3.Is;exact ⟨a,vs,rfl,.inl (.inl h1.1),Reps.isL h2 c⟩
 | _,.dct _ _,v,P,h,c | _,.ref _,v,P,h,c | _,.scr _,v,P,h,c | _,.ty _,v,P,h,c | _,.mtp _,v,P,h,c | _,.dti _,v,P,h,c=>by unfold Dv.cmp at c;cases c
theorem Reps.isL:∀ {o:Nat} {d:List Dv} {v:List V} {P:Fp},Reps K g H o d v P->AN d=true->L3.IsL K H v (toDs d)
 | _,[],v,P,h,_=>by
  unfold Reps at h;obtain ⟨rfl,_⟩:=h;unfold toDs L3.IsL
  trivial
 | _,x::xs,v,P,h,c=>by
  unfold Reps at h;obtain ⟨u,r,P1,P2,rfl,h1,h2,_⟩:=h;unfold AN at c;rw [jh] at c;unfold toDs L3.IsL;exact ⟨Rep.is h1 c.1,Reps.isL h2 c.2⟩
end
def Jk (neg:Bool) (x y:Dv):Option Bool:=if (x.cmp && y.cmp && decide (x.dep<=150))=true then some (if neg then !eqV x y else eqV x y) else none
abbrev Cg:=Jk false
abbrev Qo:=Jk true
theorem SS {neg:Bool}:AG K (fun ds=>(two (Jk neg) ds).map .bl) 0 (Ht (L3.rEqA K neg)):=Eg fun g H x y v w o1 o2 P R b Q zd _ h1 _ h2 e k=>by
 unfold Jk at e;split at e
 ·rename_i c;cases e;rw [jh,jh,decide_eq_true_eq] at c;refine ⟨toD x,toD y,by rw [dep_D];exact c.2,h1.is c.1.1,h2.is c.1.2,?_⟩;rw [LJ x y c.1.1 c.1.2];exact k
 ·cases e
noncomputable def gh:Dv->Option (List Dv)
 | .lst xs=>some xs
 | .tup xs=>some xs
 | .mtp ls=>some (ls.map .str)
 | _=>none
def Ku (e:Dv) (ds:List Dv):Bool:=ds.any fun d=>eqV d e
def NO (neg:Bool) (e s:Dv):Option Bool:=match e,s with
 | .str x,.str l=>some (if neg then !Q.sub1 x l else Q.sub1 x l)
 | e,.dct ks ds=>(OG e).bind fun k=>some (if neg then !(LQ k ks ds).isSome else (LQ k ks ds).isSome)
 | e,s=>match gh s with
  | some xs=>if (e.cmp && AN xs && decide (AX xs<=150))=true then some (if neg then !Ku e xs else Ku e xs) else none
  | none=>none
abbrev jP:=NO false
theorem anyD (e:Dv) (he:e.cmp=true):∀ (ds:List Dv),AN ds=true->((toDs ds).any fun d=>L3.eqD d (toD e))=Ku e ds
 | [],_=>by unfold toDs Ku;rfl
 | d::ds,h=>by
  unfold AN at h;rw [jh] at h;unfold Ku;simp only [toDs,lS];rw [LJ d e h.1 he,anyD e he ds h.2];rfl
theorem MI (ls:List (List Nat)):Reps K g H 0 (ls.map .str) (ls.map fun l=>V.str (tx l)) nop:=CL.mpr ⟨by simp,fun i d v e1 e2=>by
 rw [kN] at e1 e2;cases q:ls[i]? with
 | none=>rw [q] at e1;cases e1
 | some k=>rw [q] at e1 e2;cases e1;cases e2;unfold Rep;exact ⟨rfl,fun _ z=>z⟩⟩
theorem Zm {neg:Bool}:AG K (fun ds=>(two (NO neg) ds).map .bl) 0 (Ht fun x y H q=>Q.rInQ K neg x y H q\/eD neg x y H q):=Eg fun g H x y v w o1 o2 P R b Q zd l1 h1 l2 h2 e k=>by
  unfold NO at e;split at e
  · cases e;rw [rep_str h1,rep_str h2];exact .inl (.inl ⟨_,_,rfl,rfl,k⟩)
  · obtain ⟨kk,ek,e⟩:=bind_some' e;cases e;obtain ⟨a,us,rfl,ha,hl,hx⟩:=Wi h2;rw [JS h1 ek];refine .inr ⟨a,_,rfl,Jx.k ha,?_⟩;rw [Ie hl hx.len];exact k
  · rename_i a s _;split at e
    · rename_i xs es;split at e
      · rename_i c;cases e;rw [jh,jh,decide_eq_true_eq] at c;have go:∀ p ys,w=.ref p->(CB K H p ys\/Cr K H p ys)->Reps K g H 0 xs ys nop->L3.rInA K neg v w H Q:=by
          rintro p ys rfl hs hr;refine ⟨p,ys,toDs xs,toD x,rfl,hs,hr.isL c.1.2,h1.is c.1.1,by rw [deps_D];exact c.2,?_⟩;rw [anyD x c.1.1 xs c.1.2];exact k
        cases y with
        | lst ys =>
          cases es;obtain ⟨p,us,rfl,ha,hx,_⟩:=DE l2 h2;exact .inl (.inr (go p us rfl (.inl ha) hx))
        | tup ys =>
          cases es;obtain ⟨p,us,rfl,ha,hx,_⟩:=Dz l2 h2;exact .inl (.inr (go p us rfl (.inr ha) hx))
        | mtp ls =>
          cases es;unfold Rep at h2;obtain ⟨⟨p,rfl,hm⟩,_⟩:=h2;exact .inl (.inr (go p _ rfl (.inr (.inr hm)) (MI ls)))
        | _=>cases es
      · cases e
    · cases e
end
noncomputable def Ow:List Dv->Option (List Bool)
 | []=>some []
 | .bl b::ds=>(Ow ds).map (b::·)
 | _=>none
noncomputable def CD:List Dv->Option (List Int)
 | []=>some []
 | .int b::ds=>(CD ds).map (b::·)
 | _=>none
noncomputable def Hz:List Dv->Option (List (List Nat))
 | []=>some []
 | .str b::ds=>(Hz ds).map (b::·)
 | _=>none
section
variable {K:W.Frag} {g:G} {H:Hp}
theorem Jy:∀ {ds:List Dv} {bs:List Bool} {vs:List V},Reps K g H 0 ds vs nop->Ow ds=some bs->vs=bs.map V.bl
 | [],bs,vs,h,e=>by cases e;exact AY h
 | d::ds,bs,vs,h,e=>by
  obtain ⟨v,r,rfl,h1,h2⟩:=AU h;cases d<;>simp only [Ow,kd,reduceCtorEq] at e;obtain ⟨bs',e,rfl⟩:=e;rw [rep_bl h1,Jy h2 e];rfl
theorem Cj:∀ {ds:List Dv} {bs:List Int} {vs:List V},Reps K g H 0 ds vs nop->CD ds=some bs->vs=bs.map V.int
 | [],bs,vs,h,e=>by cases e;exact AY h
 | d::ds,bs,vs,h,e=>by
  obtain ⟨v,r,rfl,h1,h2⟩:=AU h;cases d<;>simp only [CD,kd,reduceCtorEq] at e;obtain ⟨bs',e,rfl⟩:=e;rw [rep_int h1,Cj h2 e];rfl
theorem Hx:∀ {ds:List Dv} {bs:List (List Nat)} {vs:List V},Reps K g H 0 ds vs nop->Hz ds=some bs->vs=(bs.map tx).map V.str
 | [],bs,vs,h,e=>by cases e;exact AY h
 | d::ds,bs,vs,h,e=>by
  obtain ⟨v,r,rfl,h1,h2⟩:=AU h;cases d<;>simp only [Hz,kd,reduceCtorEq] at e;obtain ⟨bs',e,rfl⟩:=e;rw [rep_str h1,Hx h2 e];rfl
def Qr (x:Dv):Option Dv:=match x with | .lst xs=>(Ow xs).map fun bs=>.bl (bs.all id) | _=>none
theorem Zo {o:Nat}:AG K (one Qr) o (eF K):=Ca fun g H x v o1 P d Q zd l1 h1 e k=>by
 unfold Qr at e;split at e
 ·simp only [kd] at e;obtain ⟨bs,e,rfl⟩:=e;obtain ⟨p,us,rfl,ha,hx,_⟩:=DE l1 h1;rw [Jy hx e] at ha;exact ⟨p,bs,rfl,ha,k _ _ (AW.bl _)⟩
 ·cases e
def jg (x:Dv):Option Dv:=match x with
 | .lst xs=>(CD xs).map fun ns=>.int ns.sum
 | .tup xs=>(CD xs).map fun ns=>.int ns.sum
 | _=>none
def jS (x y:Dv):Option Dv:=match x with
 | .lst xs=>match y with
  | .int d=>match CD xs with | some []=>some (.int d) | some (n::ns)=>some (.int (Q.mxI (n::ns))) | none=>none
  | _=>none
 | _=>none
noncomputable def Ll (x y:Dv):Option Dv:=match x,y with | .int i,.int j=>some (.int (if j > i then j else i)) | _,_=>none
noncomputable def Iv (x y:Dv):Option Dv:=match x,y with | .int i,.int j=>some (.int (if j < i then j else i)) | _,_=>none
theorem Ef {f:Dv->Dv->Option Dv} {o:Nat} {r:Os} (h:∀ g H x y v w o1 o2 P R d Q,Zd g H->o1<=1->Rep K g H o1 x v P->o2<=1->Rep K g H o2 y w R->f x y=some d->(∀ v H',AW K g H o d v H'->Q v H')->r [v,w] H Q):AG K (two f) o r:=fun g H ds vs d Q zd ra e k=>by
 obtain ⟨x,y,rfl,e⟩:=GT e;obtain ⟨v,o1,P,w,o2,R,rfl,h1,h2,h3,h4⟩:=ra.two;exact h g H x y v w o1 o2 P R d Q zd h1 h2 h3 h4 e k
theorem Vk {o:Nat}:AG K (two Ll) o (fun xs H Q=>∃ i j,xs=[.int i,.int j]/\Q (.int (if j > i then j else i)) H):=Ef fun g H x y v w o1 o2 P R d Q zd _ h1 _ h2 e k=>by
 unfold Ll at e;split at e
 ·cases e;rw [rep_int h1,rep_int h2];exact ⟨_,_,rfl,k _ _ (AW.int _)⟩
 ·cases e
theorem Vj {o:Nat}:AG K (two Iv) o (fun xs H Q=>∃ i j,xs=[.int i,.int j]/\Q (.int (if j < i then j else i)) H):=Ef fun g H x y v w o1 o2 P R d Q zd _ h1 _ h2 e k=>by
 unfold Iv at e;split at e
 ·cases e;rw [rep_int h1,rep_int h2];exact ⟨_,_,rfl,k _ _ (AW.int _)⟩
 ·cases e
noncomputable def Iw (x:Dv):Option Dv:=match x with | .int i=>some (.int i) | .bl b=>some (.int (if b then 1 else 0)) | _=>none
theorem Vn {o:Nat}:AG K (one Iw) o (fun xs H Q=>(∃ i,xs=[.int i]/\Q (.int i) H)\/∃ k,xs=[.bl k]/\Q (.int (if k then 1 else 0)) H):=Ca fun g H x v o1 P d Q zd l1 h1 e k=>by
 unfold Iw at e;split at e
 ·cases e;rw [rep_int h1];exact .inl ⟨_,rfl,k _ _ (AW.int _)⟩
 ·cases e;rw [rep_bl h1];exact .inr ⟨_,rfl,k _ _ (AW.int _)⟩
 ·cases e
noncomputable def Bl (x:Dv):Option Dv:=match x with | .lst xs=>some (.tup xs) | .tup xs=>some (.tup xs) | _=>none
theorem SN:AG K (one Bl) 1 (KY K):=Ca fun g H x v o1 P d Q zd l1 h1 e k=>by
 unfold Bl at e;split at e
 ·cases e;obtain ⟨p,us,rfl,ha,hx,_⟩:=DE l1 h1;exact ⟨p,us,rfl,.inl ⟨ha,fun l hl=>k _ _ (AW.tup (ju 1) hl hx)⟩⟩
 ·cases e;obtain ⟨p,us,rfl,ha,hx,ha'⟩:=Dz l1 h1;exact ⟨p,us,rfl,.inr ⟨ha,k _ _ (AW.old (Dm (ju 1) ha' hx))⟩⟩
 ·cases e
noncomputable def Ew (x:Dv):Option Dv:=match x with | .lst xs=>some (.lst xs) | .tup xs=>some (.lst xs) | .scr ns=>some (.lst (ns.map .int)) | _=>none
theorem Vl:AG K (one Ew) 1 (Nu K):=Ca fun g H x v o1 P d Q zd l1 h1 e k=>by
 unfold Ew at e;split at e
 ·cases e;obtain ⟨p,us,rfl,ha,hx,_⟩:=DE l1 h1;exact ⟨p,us,rfl,.inl ha,fun l hl=>k _ _ (AW.lst zd hx hl)⟩
 ·cases e;obtain ⟨p,us,rfl,ha,hx,_⟩:=Dz l1 h1;exact ⟨p,us,rfl,.inr ha,fun l hl=>k _ _ (AW.lst zd hx hl)⟩
 ·cases e;obtain ⟨p,rfl,ha⟩:=KN h1;exact ⟨p,_,rfl,.inl ha,fun l hl=>k _ _ (AW.lst zd (CK _) hl)⟩
 ·cases e
def HX (x y:Dv):Option Dv:=match x,y with
 | .str sep,.lst xs=>match Hz xs with
  | some ys=>if (ys.map List.length).sum+ys.length * sep.length<=1000000 then some (.str (jn sep ys)) else none
  | none=>none
 | _,_=>none
theorem Vm {o:Nat}:AG K (two HX) o (cN (SH K)):=Ef fun g H x y v w o1 o2 P R d Q zd l1 h1 l2 h2 e k=>by
 unfold HX at e;split at e
 ·split at e
  ·rename_i sep xs _ ys e1;split at e
   ·rename_i hz;cases e;obtain ⟨a,us,rfl,ha,hx,_⟩:=DE l2 h2;rw [rep_str h1];rw [Hx hx e1] at ha;refine ⟨tx sep,a,ys.map tx,rfl,rfl,ha,?_,?_⟩
    ·rw [Ys,jv,CF];exact kM hz (by decide)
    ·rw [cg];exact k _ _ (AW.str _)
   ·cases e
  ·cases e
 ·cases e
noncomputable def Fi (x:Dv):Option Dv:=match x with
 | .str l=>if (l.all (fun c=>decide (c < 128)) && decide (l.length<=1000000))=true then some (.str (l.map PyProof.Rows.up1)) else none
 | _=>none
theorem SM {o:Nat}:AG K (one Fi) o (cN SE):=Ca fun g H x v o1 P d Q zd l1 h1 e k=>by
 unfold Fi at e;split at e
 ·split at e
  ·rename_i l c;cases e;rw [jh,decide_eq_true_eq,ka] at c;rw [rep_str h1];exact ⟨l,rfl,rfl,fun x hx=>of_decide_eq_true (c.1 x hx),c.2,k _ _ (AW.str _)⟩
  ·cases e
 ·cases e
def JX (e:Dv):List Dv->Option Nat
 | []=>none
 | d::ds=>if eqV d e=true then some 0 else (JX e ds).map (·+1)
theorem IV (e:Dv):∀ (ds:List Dv) (j:Nat),JX e ds=some j->(∃ d,ds[j]?=some d/\eqV d e=true)/\∀ (i:Nat) (d:Dv),i < j->ds[i]?=some d->eqV d e=false
 | [],j,h=>by cases h
 | d::ds,j,h=>by
  unfold JX at h;split at h
  ·rename_i c;cases h;exact ⟨⟨d,rfl,c⟩,fun i d hi=>by omega⟩
  ·rename_i c;simp only [kd] at h;obtain ⟨k,hk,rfl⟩:=h;obtain ⟨h1,h2⟩:=IV e ds k hk;refine ⟨by simpa using h1,fun i d' hi hd=>?_⟩;cases i with
   | zero=>simp at hd;subst hd;simpa using c
   | succ i=>exact h2 i d' (by omega) (by simpa using hd)
theorem toDs_get:∀ (ds:List Dv) (i:Nat),(toDs ds)[i]?=(ds[i]?).map toD
 | [],i=>by unfold toDs;simp
 | d::ds,0=>by unfold toDs;simp
 | d::ds,i+1=>by
  have:=toDs_get ds i;simp only [toDs,lh];exact this
theorem IA {ds:List Dv} (h:AN ds=true):∀ {i:Nat} {d:Dv},ds[i]?=some d->d.cmp=true:=by
 induction ds with
 | nil=>intro i d e;simp at e
 | cons x xs ih =>
  unfold AN at h;rw [jh] at h;intro i d e;cases i with
  | zero=>simp at e;subst e;exact h.1
  | succ i=>exact ih h.2 (i:=i) (by simpa using e)
theorem Sx {e:Dv} {ds:List Dv} {j:Nat} (he:e.cmp=true) (hd:AN ds=true) (h:JX e ds=some j) :
    (∃ d,(toDs ds)[j]?=some d/\L3.eqD d (toD e)=true)/\∀ (m:Nat) (d:L3.D),m < j->(toDs ds)[m]?=some d->L3.eqD d (toD e)=false:=by
  obtain ⟨⟨d,h1,h2⟩,h3⟩:=IV e ds j h;refine ⟨⟨toD d,by rw [toDs_get,h1];rfl,by rw [LJ d e (IA hd h1) he];exact h2⟩,fun m d' hm hd'=>?_⟩;rw [toDs_get] at hd';cases q:ds[m]? with
  | none=>rw [q] at hd';cases hd'
  | some dm =>
    rw [q] at hd';cases hd';rw [LJ dm e (IA hd q) he];exact h3 m dm hm q
def Fj (x e:Dv):Option Dv:=match x with
 | .lst xs=>if (e.cmp && AN xs && decide (AX xs<=150))=true then (JX e xs).map fun j=>.int (j:Nat) else none
 | _=>none
theorem SR {o:Nat}:AG K (two Fj) o (cN (Q.rIndexD K)):=Ef fun g H x y v w o1 o2 P R d Q zd l1 h1 l2 h2 e k=>by
 unfold Fj at e;split at e
 ·split at e
  ·rename_i xs c;rw [jh,jh,decide_eq_true_eq] at c;simp only [kd] at e;obtain ⟨j,e1,rfl⟩:=e;obtain ⟨p,us,rfl,ha,hx,_⟩:=DE l1 h1;obtain ⟨q1,q2⟩:=Sx c.1.1 c.1.2 e1;exact ⟨p,us,w,toDs xs,toD y,j,rfl,rfl,ha,hx.isL c.1.2,h2.is c.1.1,by rw [deps_D];exact c.2,q1,q2,k _ _ (AW.int _)⟩
  ·cases e
 ·cases e
def GR (x e:Dv):Option Dv:=match x with
 | .tup xs=>if (e.cmp && AN xs && decide (AX xs<=150))=true then (JX e xs).map fun j=>.int (j:Nat) else none
 | _=>none
theorem PU {o:Nat}:AG K (two GR) o (cN (Q.rIndexTD K)):=Ef fun g H x y v w o1 o2 P R d Q zd l1 h1 l2 h2 e k=>by
 unfold GR at e;split at e
 ·split at e
  ·rename_i xs c;rw [jh,jh,decide_eq_true_eq] at c;simp only [kd] at e;obtain ⟨j,e1,rfl⟩:=e;obtain ⟨p,us,rfl,_,hx,ha⟩:=Dz l1 h1;obtain ⟨q1,q2⟩:=Sx c.1.1 c.1.2 e1;exact ⟨p,us,w,toDs xs,toD y,j,rfl,rfl,ha,hx.isL c.1.2,h2.is c.1.1,by rw [deps_D];exact c.2,q1,q2,k _ _ (AW.int _)⟩
  ·cases e
 ·cases e
def WT (f:List Int->List Int->Bool) (xs:List Dv) (y:Dv):Option Bool:=match y with
 | .tup ys=>(CD xs).bind fun a=>(CD ys).map fun b=>f a b
 | _=>none
theorem Ky {f:List Int->List Int->Bool} {xs:List Dv} {y:Dv} {v w:V} {o1 o2:Nat} {P R:Fp} {b:Bool} (l1:o1<=1) (h1:Rep K g H o1 (.tup xs) v P) (l2:o2<=1) (h2:Rep K g H o2 y w R) (e:WT f xs y=some b):∃ p q ns ms,v=.ref p/\w=.ref q/\Cr K H p (ns.map V.int)/\Cr K H q (ms.map V.int)/\b=f ns ms:=by
 unfold WT at e;split at e
 ·obtain ⟨ns,e1,e⟩:=mJ.mp e;rw [kd] at e;obtain ⟨ms,e2,rfl⟩:=e;obtain ⟨p,us,rfl,ha,hx,_⟩:=Dz l1 h1;obtain ⟨q,ws,rfl,hb,hy,_⟩:=Dz l2 h2;rw [Cj hx e1] at ha;rw [Cj hy e2] at hb;exact ⟨p,q,ns,ms,rfl,rfl,ha,hb,rfl⟩
 ·cases e
def Hq (x y:Dv):Option Bool:=match x with
 | .int i=>match y with | .int j=>some (decide (i < j)) | _=>none
 | .tup xs=>WT HT.lexLt xs y
 | _=>none
theorem eM:AG K (fun ds=>(two Hq ds).map .bl) 0 (Ht fun x y H Q=>PQ (fun i j=>.bl (decide (i < j))) x y H Q\/dr K x y H Q):=Eg fun g H x y v w o1 o2 P R b Q zd l1 h1 l2 h2 e k=>by
 unfold Hq at e;split at e
 ·split at e
  ·cases e;rw [rep_int h1,rep_int h2];exact .inl ⟨_,_,rfl,rfl,k⟩
  ·cases e
 ·obtain ⟨p,q,ns,ms,r1,r2,h3,h4,r3⟩:=Ky l1 h1 l2 h2 e;rw [r3] at k;exact .inr ⟨p,q,ns,ms,r1,r2,h3,h4,k⟩
 ·cases e
def cU (x y:Dv):Option Bool:=match x with
 | .int i=>match y with | .int j=>some (decide (i<=j)) | _=>none
 | .str a=>match y with | .str b=>some (!decide (b < a)) | _=>none
 | .tup xs=>WT HT.lexLe xs y
 | _=>none
theorem eN:AG K (fun ds=>(two cU ds).map .bl) 0 (Ht fun x y H Q=>_root_.Q.rLeA x y H Q\/du K x y H Q):=Eg fun g H x y v w o1 o2 P R b Q zd l1 h1 l2 h2 e k=>by
 unfold cU at e;split at e
 ·split at e
  ·cases e;rw [rep_int h1,rep_int h2];exact .inl (.inl ⟨_,_,rfl,rfl,k⟩)
  ·cases e
 ·split at e
  ·cases e;rw [rep_str h1,rep_str h2];refine .inl (.inr ⟨_,_,rfl,rfl,?_⟩);rw [GJ,GJ];exact k
  ·cases e
 ·obtain ⟨p,q,ns,ms,r1,r2,h3,h4,r3⟩:=Ky l1 h1 l2 h2 e;rw [r3] at k;exact .inr ⟨p,q,ns,ms,r1,r2,h3,h4,k⟩
 ·cases e
end
end R
namespace L3
open PySem PySem.Spec PyProof.Rows L2
section
end
end L3
namespace L2
open PySem PySem.Spec PyProof.Rows
section
variable {prog:Program} {w:World} {A:Around} {E:Value->Shared->Prop} {s:Shared}
theorem GB {l:Addr} {T:String} {o:Obj} {n:Nat} {vs:List Value} {Q:List Value->Shared->Prop} (hT:T = "list" \/ T = "tuple") (ho:s.heap.get? l=some o) (hc:o.cls=.type T) (hd:o.data=.seq vs.toArray n)
    (h:Q vs { s with heap:=(s.heap.push (seqObj "list" #[] 0)).update s.heap.objs.size (Obj.mapSeq (·++vs.toArray)) }) (hsz:vs.length<=sizeLine) :
    wpAny (model prog w) A (collect (.ref l)) Q E s:=by
  unfold collect;refine wpAny_bind (wpAny_runValue (codeAny_builtin entry_proto_collect' ?_))
  show wpAny _ _ (do again (.builtin "list.__iadd__" ⟨[<- newList [],.ref l],[]⟩)) _ _ s
  refine wpAny_bind (wpAny_newList (wpAny_pure ⟨Code.quiet_builtin _ (by decide +kernel),codeAny_builtin entry_list_iadd' ?_⟩))
  show wpAny _ _ (Builtin.List.listExtendWith (.ref s.heap.objs.size) (.ref l) (.ref s.heap.objs.size)) _ _ { s with heap:=s.heap.push (seqObj "list" #[] 0) }
  unfold Builtin.List.listExtendWith
  have ho':(s.heap.push (seqObj "list" #[] 0)).get? l=some o:=jm _ ho
  refine wpAny_bind (wpAny_typeOf (T:=T) ⟨o,ho',hc⟩ ?_)
  have ht:((Builtin.List.listSameRef (.ref s.heap.objs.size) (.ref l) || Value.type T == Value.type "list") || Value.type T == Value.type "tuple")=true:=by
    rcases hT with rfl | rfl
    · have:(Value.type "list" == Value.type "list")=true:=by rfl
      rw [this];simp
    · have:(Value.type "tuple" == Value.type "tuple")=true:=by rfl
      rw [this];simp
  rw [if_pos ht];refine wpAny_bind (listItems_at ho' hd ?_);refine wpAny_bind (listItems_at (xs:=#[]) (n:=0) (kD _ rfl) rfl ?_);rw [if_neg (by simp)];refine wpAny_bind (listUpdate_at (xs:=#[]) (n:=0) (kD _ rfl) rfl ?_ (kg _) (by show (#[]++vs.toArray).size<=sizeLine+1;simp only [Array.size_append,jq,kq];omega));refine wpAny_pure ?_;show wpAny (model prog w) A (do
      let o <- load s.heap.objs.size
      match o.data with
      | .seq xs _=>pure xs.toList
      | _=>unsupported "internal:collect") Q E { s with heap:=(s.heap.push (seqObj "list" #[] 0)).update s.heap.objs.size (Obj.mapSeq (·++vs.toArray)) }
  refine wpAny_bind (wpAny_load (get?_update_seq (kD _ rfl) _) ?_);show wpAny _ _ (pure ((#[]:Array Value)++vs.toArray).toList) Q E _;rw [show ((#[]:Array Value)++vs.toArray).toList=vs by simp];exact wpAny_pure h
theorem Ge {l:Addr} {T:String} {o:Obj} {n:Nat} {vs:List Value} {ns:List Int} {Q:Value->Shared->Prop} (hT:T = "list" \/ T = "tuple") (ho:s.heap.get? l=some o) (hc:o.cls=.type T) (hd:o.data=.seq vs.toArray n) (hI:IntsAre vs ns) (h64:vs.length < 64)
    (h:∀ (out:Array Value) (ns':List Int),IntsAre out.toList ns'->ns'.Perm ns->ns'.Pairwise (·<=·)->Q (.ref (s.heap.objs.size+1)) { s with heap:=sortedAll s.heap vs out }) :
    wpAny (model prog w) A (call (.builtin "sorted") [.ref l]) Q E s:=by
  refine Calls.call_function_entry kind_sorted plain_sorted entry_sorted (args_sorted1 _) ?_;unfold Builtin.«sorted»
  refine wpAny_bind (m:=checkCount "sorted" 1 1 _) (wpAny_pure ?_)
  refine wpAny_bind (GB hT ho hc hd ?_ (by rw [sizeLine_eq];omega));refine wpAny_bind (wpAny_newList ?_)
  have hsz:((s.heap.push (seqObj "list" #[] 0)).update s.heap.objs.size (Obj.mapSeq (·++vs.toArray))).objs.size=s.heap.objs.size+1:=by
    rw [lz,size_push']
  have hoL:(((s.heap.push (seqObj "list" #[] 0)).update s.heap.objs.size (Obj.mapSeq (·++vs.toArray))).push (seqObj "list" vs.toArray 0)).get? (s.heap.objs.size+1)=some (seqObj "list" vs.toArray 0):=by
    rw [<- hsz];exact kD _ rfl
  show wpAny _ _ _ _ _ { s with heap:=((s.heap.push (seqObj "list" #[] 0)).update s.heap.objs.size (Obj.mapSeq (·++vs.toArray))).push (seqObj "list" vs.toArray 0) }
  rw [hsz];refine wpAny_bind (wpAny_holding (wpAny_call_entry slot_list_sort ⟨_,hoL,rfl⟩ entry_list_sort (list_sort_tree hoL hI h64 fun out ns' a1 a2 a3=>⟨_,rfl,?_⟩) (args_list_sort _)));exact wpAny_pure ⟨_,rfl,h out ns' a1 a2 a3⟩
theorem EV (h:Heap) (vs:List Value) (out:Array Value):∃ c,(sortedAll h vs out).get? (h.objs.size+1)=some { cls:=.type "list", dict:=none,data:=.seq out c,slots:=#[] }:=by
 unfold sortedAll sortedHeap
 have hsz:((h.push (seqObj "list" #[] 0)).update h.objs.size (Obj.mapSeq (·++vs.toArray))).objs.size=h.objs.size+1:=by rw [lz,size_push']
 have hoL:(((h.push (seqObj "list" #[] 0)).update h.objs.size (Obj.mapSeq (·++vs.toArray))).push (seqObj "list" vs.toArray 0)).get? (h.objs.size+1)=some (seqObj "list" vs.toArray 0):=by
  rw [<- hsz];exact kD _ rfl
 have h1:=get?_update_seq hoL (fun _=>#[])
 have h2:=get?_update_seq (jm (seqObj "list" #[] 0) (jm (seqObj "tuple" vs.toArray 0) h1)) (fun _=>out)
 exact ⟨_,h2⟩
theorem EG (h:Heap) (vs:List Value) (out:Array Value) {b:Addr} {o:Obj} (e:h.get? b=some o):(sortedAll h vs out).get? b=some o:=by
 have hb:b < h.objs.size:=kF e;have n0:b≠h.objs.size:=kP hb;have n1:b≠h.objs.size+1:=kP (lp hb);unfold sortedAll sortedHeap;refine (lW _ _ _ _ n1).trans ?_;refine jm _ (jm _ ?_);refine (lW _ _ _ _ n1).trans ?_;refine jm _ ?_;refine (lW _ _ _ _ n0).trans ?_;exact jm _ e
end
theorem GO:∀ {ns:List Int} {its:List Value},AD (ns.map V.int) its->IntsAre its ns
 | [],_,.nil=>.nil
 | n::ns,_,.cons r rs=>by obtain ⟨t,rfl⟩:=r;exact .cons _ _ (GO rs)
theorem OL:∀ {ns:List Int} {its:List Value},IntsAre its ns->AD (ns.map V.int) its
 | _,_,.nil=>.nil
 | _,_,.cons n t rs=>.cons ⟨t,rfl⟩ (OL rs)
def Ed (K:W.Frag):List V->Hp->VK->Prop:=fun xs H Q=>∃ (p:Addr) (ns:List Int),xs=[.ref p]/\(CB K H p (ns.map V.int)\/Cr K H p (ns.map V.int))/\ns.length < 64/\∀ (l:Addr) (ns':List Int),H l=none->ns'.Perm ns->ns'.Pairwise (·<=·)->Q (.ref l) (upd H l (.lst (ns'.map V.int)))
variable {X:Cx}
theorem LX:BC X (.builtin "sorted") (Ed X.K):=by
 intro pins s σ H xs us Q I r h;obtain ⟨p,ns,rfl,hq,hl,q⟩:=h;obtain ⟨u,rfl,rx⟩:=vals1 r;cases rx;have fin:∀ (its:List Value) (hv:AD (ns.map V.int) its) (out:Array Value) (ns':List Int),IntsAre out.toList ns'->ns'.Perm ns->ns'.Pairwise (·<=·)->EP X pins σ Q (.ref (s.heap.objs.size+1)) { s with heap:=sortedAll s.heap its out }:=fun its hv out ns' a1 a2 a3=>by
  obtain ⟨c,e⟩:=EV s.heap its out;have v:=OL a1;have e':out=out.toList.toArray:=by simp
  exact ⟨.ref (s.heap.objs.size+1),_,I.laid (t':=s.toks) (fun b o e=>EG _ _ _ e) (lN _) (show An X.prog X.w _ _ _ (.lst (ns'.map V.int)) from ⟨by rw [jv,a2.length_eq,sizeLine_eq];omega,out.toList,c,v,by rw [<- e'];exact e⟩),rfl,q _ ns' (I.hok.fresh (lN _)) a2 a3⟩
 rcases hq with hq | hq
 ·obtain ⟨its,r',pl,hz⟩:=I.list hq;have hlen:=r'.length;rw [jv] at hlen;obtain ⟨o,ho,hc,n,hd⟩:=pl.isList;exact Ge (.inl rfl) ho hc hd (GO r') (by omega) (fin its r')
 ·obtain ⟨its,r',pl,hz⟩:=I.tuple hq;have hlen:=r'.length;rw [jv] at hlen;obtain ⟨o,ho,hc,n,hd⟩:=pl;exact Ge (.inr rfl) ho hc hd (GO r') (by omega) (fin its r')
theorem Jg (K:W.Frag) (h:X.K=K:=by rfl):BC X (.builtin "sorted") (Ed K):=by subst h;exact LX
end L2
namespace KO
open PySem PySem.W PyProof.Rows
theorem IL:∀ (fuel m r:Nat),r<=1->minRun' fuel m r<=m+r
 | 0,m,r,_=>ju _
 | fuel+1,m,r,h=>by
  rw [minRun'_succ];split
  ·exact ju _
  ·have:=IL fuel (m / 2) (max r (m % 2)) (by omega);omega
section
variable {prog:Program} {w:World} {A:Around} {E:Value->Shared->Prop} {κ:SortKind} {it:Array Keyed}
theorem dW {n:Nat} {Q:Unit->SortSt->Shared->Prop} {s:Shared} (h2:2<=n)
    (hc:∀ i C,1<=i->i < n->C false s->kas_cmp prog w A κ it i (i - 1) C s)
    (hQ:∀ st',arrOf st'=(List.toArray (List.range n)).map (kas_item it)->failedOf st'=none->Q () st' s) :
    kasC (model prog w) A E sortRuns' Q (kas_st κ it (List.toArray (List.range n))) s:=by
  obtain ⟨r,rfl⟩:∃ r,n=r+2:=⟨n - 2,by omega⟩;have hrs:(List.toArray (List.range (r+2))).size=r+2:=by simp
  have gD:∀ i,i < r+2->(List.toArray (List.range (r+2))).getD i 0=i:=fun i hi=>by
    rw [Array.getD_eq_getD_getElem?];simp [hi]
  have h:(kas_count (r+2) (List.toArray (List.range (r+2)))).kasWp (kas_cmp prog w A κ it) (fun q s'=>q=(r+2,List.toArray (List.range (r+2)))/\s'=s) s:=by
    unfold kas_count;rw [KasT.kasWp_bind];have asc:∀ (f k:Nat),1<=k->k+f=r+2->(kas_asc (List.toArray (List.range (r+2))) f k).kasWp (kas_cmp prog w A κ it) (fun m s'=>m=r+2/\s'=s) s:=by
      intro f
      induction f with
      | zero=>intro k _ e;exact ⟨e,rfl⟩
      | succ f ih =>
        intro k h1 e;show kas_cmp prog w A κ it ((List.toArray (List.range (r+2))).getD k 0) ((List.toArray (List.range (r+2))).getD (k - 1) 0) _ s;rw [gD k (by omega),gD (k - 1) (by omega)];refine hc k _ h1 (by omega) ?_;show (if false=true then KasT.ret k else kas_asc (List.range (r+2)).toArray f (k+1)).kasWp (kas_cmp prog w A κ it) _ s;rw [if_neg kI];exact ih (k+1) (by omega) (by omega)
    refine kas_wp_mono (asc (r+1) 1 (ju _) (by omega)) ?_;rintro m s' ⟨rfl,rfl⟩;rw [if_pos (by simp)];exact ⟨rfl,rfl⟩
  rw [sortRuns'_eq];refine kasC_bind (kasC_get ?_);dsimp only;have hsz:(arrOf (kas_st κ it (List.toArray (List.range (r+2))))).size=r+2:=by
    show ((List.toArray (List.range (r+2))).map (kas_item it)).size=_;rw [Array.size_map,hrs]
  simp only [hsz];refine kasC_bind (kasC_range ?_);show kasC _ _ _ (forIn (0::1::List.range' 2 r) _ _) _ _ _;refine kasC_cons ?_;dsimp only;rw [if_neg (by omega)];simp only [Nat.sub_zero,mQ,mf];refine kasC_bind (kas_count_ (by omega) (by rw [hrs];exact ju _) (fun m p' s' hm1 hm2 hp hg=>?_) h);obtain ⟨e1,e2⟩:=hg;cases e1;subst e2;dsimp only;have hmr:=IL (r+2) (r+2) 0 (by omega);rw [if_neg (by omega)];refine kasC_bind (kasC_get ?_);rw [show (pendingOf (kas_st κ it (List.toArray (List.range (r+2))))).back?=none from rfl];dsimp only;refine kasC_bind (kasC_modify (kasC_pure ?_));show kasC _ _ _ (forIn (1::List.range' 2 r) _ _) _ _ _;refine kasC_cons ?_;dsimp only;rw [if_pos (ju _)];refine kasC_pure ?_;dsimp only;refine kasC_bind (kasC_range ?_);show kasC _ _ _ (forIn (0::1::List.range' 2 r) _ _) _ _ _;refine kasC_cons ?_;refine kasC_bind (kasC_get ?_);rw [if_pos (show (pendingOf (setPending (kas_st κ it (List.toArray (List.range (r+2)))) ((pendingOf (kas_st κ it (List.toArray (List.range (r+2))))).push (0,r+2,0)))).size<=1 from ju 1)];refine kasC_pure ?_;dsimp only;exact kasC_pure (hQ _ rfl rfl)
def TupAt (h:Heap) (v:Value) (ns:List Int):Prop:=∃ a items,v=.ref a/\IsTup h a items/\IntsAre items.toList ns
theorem Pg {s:Shared} {x y:Value} {ns ms:List Int} {Q:Bool->Shared->Prop} (hx:TupAt s.heap x ns) (hy:TupAt s.heap y ms) (hu:A.units < cLine) (h:Q (HT.lexLt ns ms) s):wpAny (model prog w) A (oneLt' true x y) Q E s:=by
 obtain ⟨l,items,rfl,⟨⟨cls,dd,data,sl⟩,ho,hc,n,hd⟩,hi⟩:=hx;obtain ⟨b,items2,rfl,⟨⟨cls2,dd2,data2,sl2⟩,ho2,hc2,n2,hd2⟩,hj⟩:=hy;simp only at hc hd hc2 hd2;subst hc hd hc2 hd2;rw [oneLt'_eq];simp only [if_true];refine wpAny_bind (wpAny_cRoomFor hu ?_);refine wpAny_bind (wpAny_callSpecialIfBound?_slot ⟨_,ho,rfl⟩ PySem.F.slot_tuple_lt ?_);refine call_meets PySem.F.slot_tuple_lt ⟨_,ho,rfl⟩ PySem.F.entry_tuple_lt (PySem.F.args_tuple_lt_2 _ _) (HT.tuple_lt_ints l b items items2 n n2 dd dd2 sl sl2 ns ms hi hj) ⟨ho,ho2,?_⟩;exact wpAny_truthy_bool h
theorem QF {M:Model} {s:Shared} {v₁ v₂:Value} {rest:List Value} {Q:SortKind->Shared->Prop} (hT:∀ v∈v₁::v₂::rest,∃ ns,TupAt s.heap v ns) (h1:TupAt s.heap v₁ []) (h:Q oneType' s):wpAny M A (keyKind' (v₁::v₂::rest).toArray) Q E s:=by
 have first:∀ v,(∃ ns,TupAt s.heap v ns)->∃ r,∀ (Q':Option Value->Shared->Prop),Q' r s->wpAny M A (firstOfTuple' v) Q' E s:=fun v ⟨ns,a,items,e,⟨o,ho,hc,n,hd⟩,hi⟩=>by
  subst e;refine ⟨items[0]?,fun Q' hq=>?_⟩;rw [kas_first_eq];refine wpAny_bind (Looks.here (show Looks M s.heap (typeOf (.ref a)) o.cls from (Looks.ld ho).andThen .now) ?_);rw [hc,if_neg (by first | decide | simp)];exact wpAny_bind (listItems_at ho hd (wpAny_pure hq))
 have first1:∀ (Q':Option Value->Shared->Prop),Q' none s->wpAny M A (firstOfTuple' v₁) Q' E s:=by
  obtain ⟨a,items,e,⟨o,ho,hc,n,hd⟩,hi⟩:=h1;subst e;intro Q' hq;rw [kas_first_eq];refine wpAny_bind (Looks.here (show Looks M s.heap (typeOf (.ref a)) o.cls from (Looks.ld ho).andThen .now) ?_);rw [hc,if_neg (by first | decide | simp)];refine wpAny_bind (listItems_at ho hd (wpAny_pure ?_));have:items[0]?=none:=by
   cases e:items.toList with
   | nil=>simp [Array.toList_eq_nil_iff.mp e]
   | cons x xs=>rw [e] at hi;cases hi
  rw [this];exact hq
 have many:∀ (l:List Value),(∀ v∈l,∃ ns,TupAt s.heap v ns)->∃ rs:List (Option Value),rs.length=l.length/\∀ {Q':List (Option Value)->Shared->Prop},Q' rs s->wpAny M A (l.mapM firstOfTuple') Q' E s:=fun l=>by
  induction l with
  | nil=>exact fun _=>⟨[],rfl,fun hq=>by rw [List.mapM_nil];exact wpAny_pure hq⟩
  | cons x l ih =>
   intro hl;obtain ⟨r,hr⟩:=first x (hl x kA)
   obtain ⟨rs,e,hrs⟩:=ih fun v hv=>hl v (kB _ hv)
   exact ⟨r::rs,by simp [e],fun hq=>by rw [List.mapM_cons];exact wpAny_bind (hr _ (wpAny_bind (hrs (wpAny_pure hq))))⟩
 obtain ⟨rs,e,hrs⟩:=many (v₂::rest) fun v hv=>hT v (kB _ hv)
 rw [keyKind'_eq,List.mapM_toArray,map_eq_pure_bind];refine wpAny_bind (wpAny_bind ?_);rw [List.mapM_cons];refine wpAny_bind (first1 _ (wpAny_bind (hrs (wpAny_pure (wpAny_pure ?_)))));rw [if_neg (by simp),if_neg (by simp)];rw [oneTypeOnly'_eq,List.mapM_toArray,map_eq_pure_bind]
 have hty:∀ v∈v₁::v₂::rest,∀ (Q':Value->Shared->Prop),Q' (.type "tuple") s->wpAny M A (typeOf v) Q' E s:=fun v hv Q' hq=>by
  obtain ⟨ns,a,items,e,⟨o,ho,hc,n,hd⟩,hi⟩:=hT v hv;subst e;refine Looks.here (show Looks M s.heap (typeOf (.ref a)) o.cls from (Looks.ld ho).andThen .now) ?_;rw [hc];exact hq
 refine wpAny_bind (wpAny_bind (wpAny_bind (kas_mapM (r:=.type "tuple") _ hty (wpAny_pure ?_))))
 have hall:((List.map (fun _=>Value.type "tuple") (v₁::v₂::rest)).toArray.all fun x=>x == Value.type "tuple")=true:=by
  simp only [List.all_toArray,List.all_map,ka];intro _ _;rfl
 have h0:(List.map (fun _=>Value.type "tuple") (v₁::v₂::rest)).toArray[0]?=some (Value.type "tuple"):=by simp
 rw [h0];simp only [hall,if_true];exact wpAny_pure (wpAny_pure h)
theorem TupAt.kept {h h':Heap} {v:Value} {ns:List Int} (t:TupAt h v ns) (hk:∀ b o,h.get? b=some o->o.cls=.type "tuple" -> h'.get? b=some o):TupAt h' v ns:=by
 obtain ⟨a,items,e,⟨o,ho,hc,r⟩,hi⟩:=t;exact ⟨a,items,e,⟨o,hk a o ho hc,hc,r⟩,hi⟩
theorem sort_asc {s:Shared} {a:Addr} {vs:List Value} {n:Nat} {kss:List (List Int)} {P:PySem.Fin->Shared->Prop} (ho:s.heap.get? a=some (seqObj "list" vs.toArray n)) (hl:vs.length=kss.length) (hT:∀ (i:Nat) v ns,vs[i]?=some v->kss[i]?=some ns->TupAt s.heap v ns)
    (h0:2<=kss.length->kss[0]?=some []) (hasc:∀ (i:Nat) x y,kss[i]?=some x->kss[i+1]?=some y->HT.lexLt y x=false) (hu:A.units < cLine) (hz:vs.length<=1000000)
    (h:P (.done (.ret .none)) { s with heap:=sortedHeap s.heap a vs vs.toArray }):wpAny (model prog w) A (Builtin.«list.sort» ⟨[.ref a],[]⟩) P E s:=by
  rw [list_sort_plain];have ha:a < s.heap.objs.size:=kF ho;refine wpAny_bind (listItems_at ho rfl ?_);refine wpAny_bind (listUpdate_at ho rfl ?_ (by rw [jq,sizeLine_eq];omega) (kg _))
  obtain ⟨e1,ho1⟩:∃ e1,(s.heap.update a (Obj.mapSeq fun _=>#[])).get? a=some (seqObj "list" #[] e1):=⟨_,get?_update_seq ho (fun _=>#[])⟩
  refine wpAny_bind (seqEpoch_at ho1 rfl ?_);refine wpAny_bind (wpAny_newTuple ?_ (by show vs.length<=_;rw [sizeLine_eq];omega));refine wpAny_bind (wpAny_newList ?_ (kg _));refine wpAny_holding ?_
  have ho6:(((s.heap.update a (Obj.mapSeq fun _=>#[])).push (seqObj "tuple" vs.toArray 0)).push (seqObj "list" #[] 0)).get? a=some (seqObj "list" #[] e1):=by
    rw [lx _ _ _ (by rw [size_push',lz];exact kP (lp ha)),lx _ _ _ (by rw [lz];exact kP ha)];exact ho1
  show wpAny (model prog w) A _ P E { s with heap:=((s.heap.update a (Obj.mapSeq fun _=>#[])).push (seqObj "tuple" vs.toArray 0)).push (seqObj "list" #[] 0) }
  dsimp only;have hsz:vs.toArray.size=vs.length:=by simp
  have snd:(vs.toArray.zip vs.toArray).map (·.2)=vs.toArray:=by
    apply Array.toList_inj.mp;simp [Array.toList_map,Array.toList_zip,List.map_snd_zip]
  by_cases h2:vs.toArray.size < 2
  · rw [if_pos h2,if_pos h2];refine wpAny_bind (wpAny_pure ?_);rw [StateT.run_pure];refine wpAny_bind (wpAny_pure ?_);dsimp only;refine wpAny_bind (seqEpoch_at ho6 rfl ?_);rw [show (arrOf (SortSt.mk' general' (vs.toArray.zip vs.toArray) #[] 7 none)).map (·.2)=vs.toArray from snd];refine wpAny_bind (listUpdate_at ho6 rfl ?_ (kg _) (by rw [jq,sizeLine_eq];omega));simp only [bne_self_eq_false,jr,if_false];exact wpAny_pure h
  · rw [if_neg h2,if_neg h2];obtain ⟨v₁,v₂,rest,rfl⟩:∃ v₁ v₂ rest,vs=v₁::v₂::rest:=by
      match vs,hsz,h2 with
      | [],_,h2=>simp at h2
      | [_],_,h2=>simp at h2
      | v₁::v₂::rest,_,_=>exact ⟨v₁,v₂,rest,rfl⟩
    have keep:∀ b o,s.heap.get? b=some o->o.cls=.type "tuple" -> (((s.heap.update a (Obj.mapSeq fun _=>#[])).push (seqObj "tuple" (v₁::v₂::rest).toArray 0)).push (seqObj "list" #[] 0)).get? b=some o:=fun b o q hc=>by
      have hne:b≠a:=fun z=>by rw [z,ho] at q;cases q;simp [seqObj] at hc
      exact jm _ (jm _ ((lW _ _ _ _ hne).trans q))
    have hT':∀ (i:Nat) v ns,(v₁::v₂::rest)[i]?=some v->kss[i]?=some ns->TupAt (((s.heap.update a (Obj.mapSeq fun _=>#[])).push (seqObj "tuple" (v₁::v₂::rest).toArray 0)).push (seqObj "list" #[] 0)) v ns:=fun i v ns q1 q2=>(hT i v ns q1 q2).kept keep
    have kof:∀ (i:Nat) v,(v₁::v₂::rest)[i]?=some v->∃ ns,kss[i]?=some ns:=fun i v q=>⟨_,jl (by rw [<- hl];exact (jo.mp q).1)⟩
    refine wpAny_bind (QF (s:={ s with heap:=((s.heap.update a (Obj.mapSeq fun _=>#[])).push (seqObj "tuple" (v₁::v₂::rest).toArray 0)).push (seqObj "list" #[] 0) }) (fun v hv=>?_) (hT' 0 v₁ [] rfl (h0 (by rw [<- hl];simp))) ?_)
    · obtain ⟨i,hi⟩:=mB hv;obtain ⟨ns,e⟩:=kof i v hi;exact ⟨ns,hT' i v ns hi e⟩
    · have est:SortSt.mk' oneType' ((v₁::v₂::rest).toArray.zip (v₁::v₂::rest).toArray) #[] 7 none=kas_st oneType' (pairsOf (v₁::v₂::rest)) (List.toArray (List.range (v₁::v₂::rest).length)):=by
        have e:=kas_range (pairsOf (v₁::v₂::rest));rw [pairsOf_size] at e;show SortSt.mk' oneType' (pairsOf (v₁::v₂::rest)) #[] 7 none=SortSt.mk' oneType' ((List.toArray (List.range (v₁::v₂::rest).length)).map (kas_item (pairsOf (v₁::v₂::rest)))) #[] 7 none;rw [e]
      rw [est]
      refine wpAny_bind (wpAny_mono (dW (A:=A) (E:=E) (prog:=prog) (w:=w) (κ:=oneType') (it:=pairsOf (v₁::v₂::rest)) (n:=(v₁::v₂::rest).length) (s:={ s with heap:=((s.heap.update a (Obj.mapSeq fun _=>#[])).push (seqObj "tuple" (v₁::v₂::rest).toArray 0)).push (seqObj "list" #[] 0) })
        (Q:=fun _ st' s'=>(arrOf st').map (·.2)=(v₁::v₂::rest).toArray/\failedOf st'=none/\s'={ s with heap:=((s.heap.update a (Obj.mapSeq fun _=>#[])).push (seqObj "tuple" (v₁::v₂::rest).toArray 0)).push (seqObj "list" #[] 0) }) (by simp) (fun i C h1 hi hC=>?_) fun st' ha hf=>?_) ?_ fun _ _ x=>x)
      · show wpAny (model prog w) A (keyLt' oneType' (kas_item (pairsOf (v₁::v₂::rest)) i).1 (kas_item (pairsOf (v₁::v₂::rest)) (i - 1)).1) C (fun _ _=>False) _;rw [keyLt'_oneType,kas_item_eq,kas_item_eq];have g:∀ j,j < (v₁::v₂::rest).length->∃ v ns,(v₁::v₂::rest)[j]?=some v/\(v₁::v₂::rest).getD j Value.none=v/\kss[j]?=some ns:=fun j hj=>by
          have e:(v₁::v₂::rest)[j]?=some (v₁::v₂::rest)[j]:=jl hj;obtain ⟨ns,e2⟩:=kof j _ e;exact ⟨_,ns,e,by rw [kL,e];rfl,e2⟩
        obtain ⟨x,ns,x1,x2,x3⟩:=g i hi;obtain ⟨y,ms,y1,y2,y3⟩:=g (i - 1) (by omega);show wpAny (model prog w) A (oneLt' true ((v₁::v₂::rest).getD i Value.none) ((v₁::v₂::rest).getD (i - 1) Value.none)) C (fun _ _=>False) _;rw [x2,y2];refine Pg (hT' i x ns x1 x3) (hT' (i - 1) y ms y1 y3) hu ?_;rw [hasc (i - 1) ms ns y3 (by rw [show i - 1+1=i by omega];exact x3)];exact hC
      · refine ⟨?_,hf,rfl⟩;rw [ha];have e:=kas_range (pairsOf (v₁::v₂::rest));rw [pairsOf_size] at e;rw [e];exact snd
      · rintro ⟨⟨⟩,st'⟩ s' ⟨hs,hf,rfl⟩;dsimp only at hs hf ⊢;refine wpAny_bind (seqEpoch_at ho6 rfl ?_);rw [hs,hf];refine wpAny_bind (listUpdate_at ho6 rfl ?_ (kg _) (by rw [jq,sizeLine_eq];omega));simp only [bne_self_eq_false,jr,if_false];exact wpAny_pure h
end
end KO
namespace L2
open PySem PySem.Spec PyProof.Rows
section
variable {prog:Program} {w:World} {A:Around} {E:Value->Shared->Prop} {s:Shared}
theorem MC {l:Addr} {o:Obj} {n:Nat} {vs:List Value} {kss:List (List Int)} {Q:Value->Shared->Prop} (ho:s.heap.get? l=some o) (hc:o.cls=.type "list") (hd:o.data=.seq vs.toArray n) (hl:vs.length=kss.length) (hT:∀ (i:Nat) v ns,vs[i]?=some v->kss[i]?=some ns->KO.TupAt s.heap v ns)
    (h0:2<=kss.length->kss[0]?=some []) (hasc:∀ (i:Nat) x y,kss[i]?=some x->kss[i+1]?=some y->HT.lexLt y x=false) (hu:A.units+2 < cLine) (hz:vs.length<=1000000)
    (h:Q (.ref (s.heap.objs.size+1)) { s with heap:=sortedAll s.heap vs vs.toArray }) :
    wpAny (model prog w) A (call (.builtin "sorted") [.ref l]) Q E s:=by
  refine Calls.call_function_entry kind_sorted plain_sorted entry_sorted (args_sorted1 _) ?_;unfold Builtin.«sorted»
  refine wpAny_bind (m:=checkCount "sorted" 1 1 _) (wpAny_pure ?_)
  refine wpAny_bind (GB (.inl rfl) ho hc hd ?_ (by rw [sizeLine_eq];omega));refine wpAny_bind (wpAny_newList ?_ (by rw [sizeLine_eq];omega))
  have hsz:((s.heap.push (seqObj "list" #[] 0)).update s.heap.objs.size (Obj.mapSeq (·++vs.toArray))).objs.size=s.heap.objs.size+1:=by
    rw [lz,size_push']
  have hoL:(((s.heap.push (seqObj "list" #[] 0)).update s.heap.objs.size (Obj.mapSeq (·++vs.toArray))).push (seqObj "list" vs.toArray 0)).get? (s.heap.objs.size+1)=some (seqObj "list" vs.toArray 0):=by
    rw [<- hsz];exact kD _ rfl
  have keep:∀ b o,s.heap.get? b=some o->o.cls=.type "tuple" -> (((s.heap.push (seqObj "list" #[] 0)).update s.heap.objs.size (Obj.mapSeq (·++vs.toArray))).push (seqObj "list" vs.toArray 0)).get? b=some o:=fun b o q _=>by
    have hlt:b < s.heap.objs.size:=kF q;rw [lx _ _ _ (by rw [hsz];exact kP (lp hlt)),lW _ _ _ _ (kP hlt),lx _ _ _ (kP hlt)];exact q
  show wpAny _ _ _ _ _ { s with heap:=((s.heap.push (seqObj "list" #[] 0)).update s.heap.objs.size (Obj.mapSeq (·++vs.toArray))).push (seqObj "list" vs.toArray 0) }
  rw [hsz]
  refine wpAny_bind (wpAny_holding (wpAny_call_entry slot_list_sort ⟨_,hoL,rfl⟩ entry_list_sort (KO.sort_asc (s:={ s with heap:=((s.heap.push (seqObj "list" #[] 0)).update s.heap.objs.size (Obj.mapSeq (·++vs.toArray))).push (seqObj "list" vs.toArray 0) }) hoL hl (fun i v ns q1 q2=>(hT i v ns q1 q2).kept keep) h0 hasc (by show A.units+1+1 < _;omega) hz ⟨_,rfl,?_⟩) (args_list_sort _)))
  exact wpAny_pure ⟨_,rfl,h⟩
end
def MK (K:W.Frag):List V->Hp->VK->Prop:=fun xs H Q=>∃ (p:Addr) (us:List V) (kss:List (List Int)),xs=[.ref p]/\CB K H p us/\us.length=kss.length/\(∀ (i:Nat) v ns,us[i]?=some v->kss[i]?=some ns->∃ b,v=.ref b/\Cr K H b (ns.map V.int)) /\
 (2<=kss.length->kss[0]?=some [])/\(∀ (i:Nat) x y,kss[i]?=some x->kss[i+1]?=some y->HT.lexLt y x=false)/\us.length<=1000000/\∀ l,H l=none->Q (.ref l) (upd H l (.lst us))
variable {X:Cx}
theorem NB (hu:X.A.units+2 < cLine):BC X (.builtin "sorted") (MK X.K):=by
  intro pins s σ H xs us Q I r h;obtain ⟨p,ws,kss,rfl,hq,hl,hT,h0,hasc,hz,q⟩:=h;obtain ⟨u,rfl,rx⟩:=vals1 r;cases rx;obtain ⟨its,r',pl,_⟩:=I.list hq;have hlen:=r'.length;obtain ⟨o,ho,hc,n,hd⟩:=pl.isList;refine MC ho hc hd (hlen.symm.trans hl) (fun i v ns q1 q2=>?_) h0 hasc hu (by omega) ?_
  · obtain ⟨x,e1,e2⟩:∃ x,ws[i]?=some x/\RelV x v:=by
      have hi:i < ws.length:=by rw [hlen];exact (jo.mp q1).1
      obtain ⟨u',e',ru⟩:=r'.get (jl hi);rw [q1] at e';cases e';exact ⟨_,jl hi,ru⟩
    obtain ⟨b,rfl,hb⟩:=hT i x ns e1 q2;cases e2;obtain ⟨its2,r2,p2,_⟩:=I.tuple hb;exact ⟨b,its2.toArray,rfl,p2,GO r2⟩
  · obtain ⟨c,e⟩:=EV s.heap its its.toArray;exact ⟨.ref (s.heap.objs.size+1),_,I.laid (t':=s.toks) (fun b o e=>EG _ _ _ e) (lN _) (show An X.prog X.w _ _ _ (.lst ws) from ⟨by rw [sizeLine_eq];omega,its,c,r',e⟩),rfl,q _ (I.hok.fresh (lN _))⟩
end L2
namespace R
open PySem L2
noncomputable def Xv:Dv->Option (List Dv)
 | .tup ds=>some ds
 | .lst ds=>some ds
 | .scr ns=>some (ns.map .int)
 | _=>none
section
variable {K:W.Frag} {g:G} {H:Hp}
abbrev gW (K:W.Frag) (g:G) (H:Hp) (a:Addr) (b:Bool) (ds:List Dv):Prop:=∀ g2 H2,HY g H g2 H2->∃ vs,Uo K H2 a vs b/\Reps K g2 H2 0 ds vs nop
theorem Ru {d:Dv} {ds:List Dv} {v:V} (h:Rep K g H 0 d v nop) (e:Xv d=some ds):∃ a b,v=.ref a/\gW K g H a b ds:=by
 have z1:(0:Nat)<=1:=by decide
 cases d with
 | tup es =>
  cases e;obtain ⟨a,vs,rfl,_⟩:=Dz z1 h;refine ⟨a,true,rfl,fun g2 H2 st=>?_⟩;obtain ⟨a',us,q,k1,k2,_⟩:=Dz z1 (st.rep h);cases q;exact ⟨us,k1,k2⟩
 | lst es =>
  cases e;obtain ⟨a,vs,rfl,_⟩:=DE z1 h;refine ⟨a,false,rfl,fun g2 H2 st=>?_⟩;obtain ⟨a',us,q,k1,k2,_⟩:=DE z1 (st.rep h);cases q;exact ⟨us,k1,k2⟩
 | scr ns =>
  cases e;obtain ⟨a,rfl,_⟩:=KN h;refine ⟨a,false,rfl,fun g2 H2 st=>?_⟩;obtain ⟨a',q,k1⟩:=KN (st.rep h);cases q;exact ⟨_,k1,CK ns⟩
 | _=>cases e
theorem VH:HY g H g H:=by
 first | exact ⟨nop,nop,Step.refl,fun _ z=>z.elim⟩ | exact ⟨nop,nop,Step.refl,FpOk.nop⟩ | exact HY.refl
noncomputable def cc:List Dv->List Dv->List Dv
 | x1::xs1,x2::xs2=>.tup [x1,x2]::cc xs1 xs2
 | _,_=>[]
def enumD (k:Nat):List Dv->List Dv
 | []=>[]
 | d::ds=>.tup [.int (k:Nat),d]::enumD (k+1) ds
theorem IZ:∀ (ds:List Dv) (k i:Nat) (e:Dv),(enumD k ds)[i]?=some e->∃ d,ds[i]?=some d/\e=.tup [.int ((k+i:Nat):Int),d]
 | [],k,i,e,h=>by simp [enumD] at h
 | d::ds,k,0,e,h=>by simp [enumD] at h;exact ⟨d,rfl,h.symm⟩
 | d::ds,k,i+1,e,h=>by
  obtain ⟨d',h1,h2⟩:=IZ ds (k+1) i e (by simpa [enumD] using h);exact ⟨d',by simpa using h1,by rw [h2];congr 3;omega⟩
theorem enumD_len:∀ (ds:List Dv) (k:Nat),(enumD k ds).length=ds.length
 | [],k=>rfl
 | d::ds,k=>by simp [enumD,enumD_len ds]
def Nr (ds:List Dv):Option (List Dv):=one (fun x=>(Xv x).bind fun xs=>some (enumD 0 xs)) ds
def eC (K:W.Frag):List V->Hp->(It->Hp->Prop)->Prop:=fun vs H1 R=>∃ a b xs,vs=[.ref a]/\Uo K H1 a xs b/\R (Xe K a b xs.length) H1
theorem Ux {a:Addr} {b:Bool} {ds:List Dv} (h:gW K g H a b ds):Yl K (Xe K a b ds.length) (enumD 0 ds) g H:=by
 intro g2 H2 st;obtain ⟨vs,sq,hr⟩:=h g2 H2 st;refine ⟨fun i d e=>?_,fun i hi=>⟨vs,sq,hr.len.symm,by rw [enumD_len] at hi;exact hi⟩⟩;obtain ⟨d',e',rfl⟩:=IZ ds 0 i d e;obtain ⟨v,_,ev,rv,_⟩:=hr.get e';refine ⟨⟨vs,v,sq,hr.len.symm,ev⟩,fun x H3 y=>?_⟩;obtain ⟨p,w,hp,rfl,rfl,y⟩:=y;have:=y vs sq;rw [ev] at this;cases this;have ri:Rep K g2 H2 0 (.int ((0+i:Nat):Int)) (.int (i:Nat)) nop:=by rw [mf];exact BG
 exact AW.tup (by decide) hp (Bz (FR ri) (FR rv.z))
theorem Ro:Qs K Nr (eC K):=fun g H ds vs its Q zd ra e q=>by
 obtain ⟨x,rfl,e⟩:=Ei e;obtain ⟨xs,e1,e⟩:=bind_some' e;cases e;obtain ⟨v,us,rfl,h1,h2⟩:=AU ra;cases AY h2;obtain ⟨a,b,rfl,q1⟩:=Ru h1 e1;obtain ⟨w1,s1,r1⟩:=q1 g H VH;exact ⟨a,b,w1,rfl,s1,by rw [<- r1.len];exact q _ H (fun _ _ z=>z) (Ux q1)⟩
def VW (ds:List Dv):Option (List Dv):=one (fun x=>match x with | .lst xs=>some xs.reverse | _=>none) ds
def hG (K:W.Frag):List V->Hp->(It->Hp->Prop)->Prop:=fun vs H1 R=>∃ a xs,vs=[.ref a]/\CB K H1 a xs/\R (gY K a xs.length) H1
theorem Yo {a:Addr} {ds:List Dv} (h:gW K g H a false ds):Yl K (gY K a ds.length) ds.reverse g H:=by
 intro g2 H2 st;obtain ⟨vs,sq,hr⟩:=h g2 H2 st;refine ⟨fun i d e=>?_,fun i hi=>by rw [lI] at hi;exact hi⟩;have hi:i < ds.length:=by have:=(jo.mp e).1;simpa using this
 rw [lO hi] at e;obtain ⟨u,_,eu,ru,_⟩:=hr.get e;have eu2:vs.reverse[i]?=some u:=by rw [lO (by rw [<- hr.len];exact hi),<- hr.len];exact eu
 refine ⟨⟨vs,u,sq,hr.len.symm,eu2⟩,fun x H3 y=>?_⟩;obtain ⟨rfl,y⟩:=y;have:=y vs sq;rw [eu2] at this;cases this;exact AW.old ru.z
theorem VL:Qs K VW (hG K):=fun g H ds vs its Q zd ra e q=>by
  obtain ⟨x,rfl,e0⟩:=Ei e;split at e0
  · rename_i xs;cases e0;obtain ⟨v,us,rfl,h1,h2⟩:=AU ra;cases AY h2;obtain ⟨a,vs,rfl,hs,hx,_⟩:=DE (by decide:0<=1) h1;have q1:gW K g H a false xs:=fun g2 H2 st=>by
      obtain ⟨a',us,z,k1,k2,_⟩:=DE (by decide:0<=1) (st.rep h1);cases z;exact ⟨us,k1,k2⟩
    exact ⟨a,vs,rfl,hs,by rw [<- hx.len];exact q _ H (fun _ _ z=>z) (Yo q1)⟩
  · cases e0
end
section
variable {K:W.Frag} {g:G} {H:Hp}
noncomputable def iy {α:Type} (f:Dv->Dv->Dv->Option α) (ds:List Dv):Option α:=match ds with | [a,b,c]=>f a b c | _=>none
def gJ (ds:List Dv):Option Dv:=match ds with
 | [.int j]=>if small j=true/\j<=1000000 then some (.lst ((List.range j.toNat).map fun k=>.int (k:Nat))) else none
 | [.int i,.int j]=>if (small i && small j)=true/\j - i<=1000000 then some (.lst ((List.range (j - i).toNat).map fun k=>.int (i+(k:Nat)))) else none
 | _=>none
def Ul (x:Dv) (ds:List Dv):Option (Dv×Dv):=match x,ds with
 | .lst xs,[.int i]=>if small i=true then (seqIndex? i xs.length).bind fun k=>(xs[k]?).map fun d=>(d,.lst (xs.eraseIdx k)) else none
 | _,_=>none
theorem fB:Qt K Ul ZZ:=fun g H x v P ds us r y Q zd rx rd e k=>by
 unfold Ul at e;split at e
 ·rename_i xs i;split at e
  ·rename_i c;obtain ⟨n,en,e⟩:=bind_some' e;simp only [kd,Prod.mk.injEq] at e;obtain ⟨d,ed,rfl,rfl⟩:=e;obtain ⟨a,vs,rfl,ha,hz,hx,hP,go⟩:=Eh rx;obtain ⟨u,us',rfl,hu,h2⟩:=AU rd;cases AY h2;obtain ⟨s,hd,mk⟩:=go (vs.eraseIdx n);have h0:=CL.mp hx;obtain ⟨w,P1,e2,r2,_⟩:=hx.get ed;have b:=KL c;rw [rep_int hu];refine ⟨a,vs,i,n,w,rfl,rfl,ha,by omega,by omega,by rw [<- h0.1];exact en,e2,k _ _ P s (mk _ ?_) (hd r2.z)⟩;refine CL.mpr ⟨by simp [List.length_eraseIdx,h0.1],fun j d v e3 e4=>?_⟩;rw [List.getElem?_eraseIdx] at e3 e4;split at e3
   ·rename_i z;rw [if_pos z] at e4;exact h0.2 j d v e3 e4
   ·rename_i z;rw [if_neg z] at e4;exact h0.2 (j+1) d v e3 e4
  ·cases e
 ·cases e
end
noncomputable def PL (ds:List Dv):Option (List Dv):=match ds with
 | [.int i,.int j,.int k]=>if k = -1/\(-1000000<=i/\i < 1000000/\-1000000<=j/\j < 1000000) then some ((List.range (i - j).toNat).map fun q=>.int (i - (q:Nat))) else none
 | _=>none
def di:List V->Hp->(It->Hp->Prop)->Prop:=fun vs H1 R=>∃ i j:Int,vs=[.int i,.int j,.int (-1)]/\(-1000000<=i/\i < 1000000/\-1000000<=j/\j < 1000000)/\R (gc i (i - j).toNat) H1
theorem Uy {K:W.Frag} {g:G} {H:Hp} {hi:Int} {n:Nat}:Yl K (gc hi n) ((List.range n).map fun k=>.int (hi - (k:Nat))) g H:=by
 intro g2 H2 st;refine ⟨fun i d e=>?_,fun i hi=>by rw [jv,lQ] at hi;exact hi⟩;obtain ⟨hi,rfl⟩:=Dl e;refine ⟨hi,fun x H3 y=>?_⟩;obtain ⟨rfl,rfl⟩:=y;exact AW.old BG
theorem Rm {K:W.Frag}:Qs K PL di:=fun g H ds vs its Q zd ra e q=>by
 unfold PL at e;split at e
 ·rename_i i j k;split at e
  ·rename_i c;obtain ⟨rfl,c⟩:=c;cases e;obtain ⟨v,us,rfl,h1,h2⟩:=AU ra;obtain ⟨w,us,rfl,h3,h4⟩:=AU h2;obtain ⟨u,us,rfl,h5,h6⟩:=AU h4;cases AY h6;rw [rep_int h1,rep_int h3,rep_int h5];exact ⟨i,j,rfl,c,q _ H (fun _ _ z=>z) Uy⟩
  ·cases e
 ·cases e
noncomputable def De (x:Dv):Option Dv:=match x with | .lst xs=>some (.lst xs.reverse) | .scr ns=>some (.lst (ns.map .int).reverse) | _=>none
theorem MM {K:W.Frag}:AG K (one De) 1 (cb (jE K)):=Ca fun g H x v o1 P d Q zd l1 h1 e k=>by
 unfold De at e;split at e
 ·cases e;obtain ⟨p,us,rfl,ha,hx,_⟩:=DE l1 h1;exact ⟨p,us,rfl,ha,fun l hl=>k _ _ (AW.lst zd (IG hx) hl)⟩
 ·cases e;obtain ⟨p,rfl,ha⟩:=KN h1;exact ⟨p,_,rfl,ha,fun l hl=>k _ _ (AW.lst zd (IG (CK _)) hl)⟩
 ·cases e
noncomputable def jR (x y:Dv):Option Dv:=match x,y with
 | .lst xs,.int i=>if i = -1 then some (.lst xs.reverse) else none
 | .tup xs,.int i=>if i = -1 then some (.tup xs.reverse) else none
 | _,_=>none
noncomputable def Hr:Dv->Option Bool
 | .non=>some false
 | .bl b=>some b
 | .int i=>some (i != 0)
 | .str l=>if l.length<=1000000 then some (!l.isEmpty) else none
 | .lst xs=>some (!xs.isEmpty)
 | .tup xs=>some (!xs.isEmpty)
 | .scr xs=>some (!xs.isEmpty)
 | .dct ks _=>some (!ks.isEmpty)
 | _=>none
theorem Nt {K:W.Frag} {g:G} {H:Hp} {o:Nat} {xs:List Dv} {vs:List V} {P:Fp} (h:Reps K g H o xs vs P):(!xs.isEmpty)=!vs.isEmpty:=by
 have:=h.len;cases xs<;>cases vs<;>simp at this<;>rfl
theorem VC (K:W.Frag) (g:G) (H:Hp) (o:Nat) (d:Dv) (v:V) (P:Fp) (b:Bool) (h:Rep K g H o d v P) (e:Hr d=some b):Um K v H b:=by
 cases d with
 | non=>cases e;rw [rep_non h];exact rfl
 | bl b=>cases e;rw [rep_bl h];exact rfl
 | int i=>cases e;rw [rep_int h];exact rfl
 | str l =>
  simp only [Hr.eq_def] at e;split at e
  ·rename_i hl;cases e;rw [rep_str h];refine ⟨by rw [CF];exact kM hl (by decide),?_⟩;rw [CF];cases l<;>simp;omega
  ·cases e
 | lst xs =>
  cases e;unfold Rep at h;obtain ⟨a,vs,P',rfl,h1,h2,_⟩:=h;exact .inl ⟨vs,.inl (.inl h1.1),Nt h2⟩
 | tup xs =>
  cases e;unfold Rep at h;obtain ⟨a,vs,rfl,h1,h2⟩:=h;exact .inr (.inl ⟨vs,.inl (.inl h1),Nt h2⟩)
 | scr ns =>
  cases e;obtain ⟨a,rfl,h1⟩:=KN h;exact .inl ⟨_,h1,by cases ns<;>rfl⟩
 | dct ks ds =>
  cases e;obtain ⟨a,us,rfl,ha,hl,hx⟩:=Wi h;refine .inr (.inr ⟨_,ha,?_⟩);have:=hx.len;cases ks<;>cases ds<;>cases us<;>simp at hl this<;>rfl
 | _=>cases e
noncomputable def IT (ns:List Int):List Int:=ns.mergeSort fun a b=>decide (a<=b)
theorem Mf (ns:List Int):(IT ns).Perm ns:=List.mergeSort_perm ..
theorem Su (ns:List Int):(IT ns).Pairwise (·<=·):=by
 have:=List.pairwise_mergeSort (le:=fun a b:Int=>decide (a<=b)) (fun a b c h1 h2=>by simp at *;omega) (fun a b=>by simp;omega) ns;exact this.imp fun h=>of_decide_eq_true h
theorem Sv {ns ms:List Int} (h:ms.Perm ns) (h2:ms.Pairwise (·<=·)):ms=IT ns:=List.Perm.eq_of_pairwise (fun a b _ _ h1 h2=>Int.le_antisymm h1 h2) h2 (Su ns) (h.trans (Mf ns).symm)
def Js (x:Dv):Option Dv:=match x with
 | .lst xs=>(CD xs).bind fun ns=>if ns.length < 64 then some (.lst ((IT ns).map .int)) else none
 | .tup xs=>(CD xs).bind fun ns=>if ns.length < 64 then some (.lst ((IT ns).map .int)) else none
 | _=>none
theorem SO {K:W.Frag}:AG K (one Js) 1 (Ed K):=Ca fun g H x v o1 P d Q zd l1 h1 e k=>by
 have go:∀ {xs:List Dv} {us:List V} {p:Addr},Reps K g H 0 xs us nop->((CD xs).bind fun ns=>if ns.length < 64 then some (Dv.lst ((IT ns).map .int)) else none)=some d->(CB K H p us\/Cr K H p us)->Ed K [.ref p] H Q:=fun {xs us p} hx e ha=>by
  cases e1:CD xs with
  | none=>rw [e1] at e;cases e
  | some ns =>
   rw [e1,dL] at e
   by_cases hl:ns.length < 64
   ·rw [if_pos hl] at e;cases e;rw [Cj hx e1] at ha;exact ⟨p,ns,rfl,ha,hl,fun l ns' h h2 h3=>by rw [Sv h2 h3];exact k _ _ (AW.lst zd (CK _) h)⟩
   ·rw [if_neg hl] at e;cases e
 unfold Js at e;split at e
 ·obtain ⟨p,us,rfl,ha,hx,_⟩:=DE l1 h1;exact go hx e (.inl ha)
 ·obtain ⟨p,us,rfl,ha,hx,_⟩:=Dz l1 h1;exact go hx e (.inr ha)
 ·cases e
def Fm:List Dv->Option (List (List Int))
 | []=>some []
 | .tup ks::ds=>(CD ks).bind fun ns=>(Fm ds).map (ns::·)
 | _=>none
def NQ:List (List Int)->Bool
 | a::b::r=>!HT.lexLt b a && NQ (b::r)
 | _=>true
noncomputable def iD:List (List Int)->Bool
 | (_::_)::_::_=>false
 | _=>true
def Jt (x:Dv):Option Dv:=match x with
 | .lst xs=>(Fm xs).bind fun kss=>bif iD kss && NQ kss && decide (xs.length<=1000000) then some (.lst xs) else none
 | _=>none
theorem Hw {K:W.Frag} {g:G} {H:Hp}:∀ {ds:List Dv} {kss:List (List Int)} {vs:List V},Reps K g H 0 ds vs nop->Fm ds=some kss->vs.length=kss.length/\∀ (i:Nat) v ns,vs[i]?=some v->kss[i]?=some ns->∃ b,v=.ref b/\Cr K H b (ns.map V.int)
 | [],kss,vs,h,e=>by
  rw [AY h];cases e;exact ⟨rfl,fun i v ns z=>by simp at z⟩
 | d::ds,kss,vs,h,e=>by
  obtain ⟨v,us,rfl,h1,h2⟩:=AU h;cases d<;>first | (simp only [Fm,reduceCtorEq] at e;done) | skip
  rename_i ks;simp only [Fm,mJ,kd] at e;obtain ⟨ns,e1,rest,e2,rfl⟩:=e;obtain ⟨hl,hr⟩:=Hw h2 e2;refine ⟨by simp [hl],fun i w ms q1 q2=>?_⟩;cases i with
  | zero =>
   simp only [List.getElem?_cons_zero,Option.some.injEq] at q1 q2;subst q1 q2;obtain ⟨a,us',rfl,ha,hx,_⟩:=Dz (by decide:0<=1) h1;rw [Cj hx e1] at ha;exact ⟨a,rfl,ha⟩
  | succ i=>exact hr i w ms (by simpa using q1) (by simpa using q2)
theorem Lf:∀ {kss:List (List Int)},NQ kss=true->∀ (i:Nat) x y,kss[i]?=some x->kss[i+1]?=some y->HT.lexLt y x=false
 | [],_,i,x,y,h1,_=>by simp at h1
 | [_],_,i,x,y,_,h2=>by simp at h2
 | a::b::r,h,i,x,y,h1,h2=>by
  unfold NQ at h;rw [jh,lD] at h;cases i with
  | zero=>simp at h1 h2;subst h1 h2;exact h.1
  | succ i=>exact Lf h.2 i x y (by simpa using h1) (by simpa using h2)
theorem SQ {K:W.Frag}:AG K (one Jt) 1 (MK K):=Ca fun g H x v o1 P d Q zd l1 h1 e k=>by
 unfold Jt at e;split at e
 ·rename_i xs;obtain ⟨p,us,rfl,ha,hx,_⟩:=DE l1 h1;obtain ⟨kss,e1,e⟩:=bind_some' e;cases c:(iD kss && NQ kss && decide (xs.length<=1000000)) with
  | false=>rw [c] at e;cases e
  | true =>
   rw [c] at e;cases e;simp only [jh,decide_eq_true_eq] at c;obtain ⟨hl,hr⟩:=Hw hx e1;refine ⟨p,us,kss,rfl,ha,hl,hr,fun h2=>?_,Lf c.1.2,by rw [<- hx.len];exact c.2,fun l h=>k _ _ (AW.lst zd hx h)⟩
   match kss,h2,c.1.1 with
   | []::_::_,_,_=>rfl
   | (_::_)::_::_,_,h=>cases h
 ·cases e
def Dx (x:Dv):Option Dv:=match Js x with
 | some d=>some d
 | none=>Jt x
theorem PR {K:W.Frag}:AG K (one Dx) 1 (fun xs H Q=>Ed K xs H Q\/MK K xs H Q):=fun g H ds vs d Q zd ra e k=>by
 obtain ⟨x,rfl,e0⟩:=Ei e;clear e;unfold Dx at e0;split at e0
 ·rename_i c;cases e0;exact .inl (SO g H [x] vs d Q zd ra c k)
 ·exact .inr (SQ g H [x] vs d Q zd ra e0 k)
theorem Lc:bootBuiltins "sorted" = some (.builtin "sorted"):=by decide +kernel
theorem gT {es:List Expr} (h:es.length=1):∃ a,es=[a]:=List.length_eq_one_iff.mp h
theorem jd {es:List Expr} (h:es.length=2):∃ a b,es=[a,b]:=by
 cases es with
 | nil=>cases h
 | cons a es=>obtain ⟨b,rfl⟩:=gT (Nat.succ.inj h);exact ⟨a,b,rfl⟩
theorem jZ {es:List Expr} (h:es.length=3):∃ a b c,es=[a,b,c]:=by
 cases es with
 | nil=>cases h
 | cons a es=>obtain ⟨b,c,rfl⟩:=jd (Nat.succ.inj h);exact ⟨a,b,c,rfl⟩
theorem cn {tg:Expr} (h:JV tg=true):∃ elts x1 tpos,tg=.Tuple elts x1 tpos:=by
 cases tg<;>first | exact ⟨_,_,_,rfl⟩ | cases h
theorem Sz {X:Cx} (h:Gx X):X.A.units+1 < cLine:=by obtain ⟨j,r⟩:=h.2;have:=r.un;omega
theorem fJ {X:Cx} (h:Gx X):X.A.units+2 < cLine:=by obtain ⟨j,r⟩:=h.2;have:=r.un;omega
end R
namespace My
open PySem L2 R
theorem jJ {K:W.Frag} {o:Nat} {r:Os}:AG K (fun _=>none) o r:=fun _ _ _ _ _ _ _ _ e _=>by cases e
theorem jI {K:W.Frag} {o:Nat} {r:Os}:AG K (two fun _ _=>none) o r:=fun _ _ ds _ _ _ _ _ e _=>by unfold two at e;split at e<;>cases e
def tb:Tb where
 bins:=[⟨.Add,Am,fun X h=>⟨_,WE X.K,Zp⟩⟩,
  ⟨.Sub,Ap,fun X h=>⟨_,aF,Vo⟩⟩,
  ⟨.Mult,DH,fun X h=>⟨_,aI.or (aG.or L4.op_repT),Zk⟩⟩,
  ⟨.Mod,DL,fun X h=>⟨_,aJ,JM fun _ _ h=>of_decide_eq_true h⟩⟩,
  ⟨.FloorDiv,EE,fun X h=>⟨_,WB,JM fun _ _ h=>by rw [jh,decide_eq_true_eq,decide_eq_true_eq] at h;exact h⟩⟩,
  ⟨.Pow,cK,fun X h=>⟨_,aH,JM fun _ _ h=>by rw [jh,jh,decide_eq_true_eq,decide_eq_true_eq,decide_eq_true_eq] at h;exact ⟨h.1.1,h.1.2,h.2⟩⟩⟩]
 cmps:=[⟨.Eq,Cg,fun X h=>⟨_,L3.op_eqA h.2.choose_spec,SS⟩⟩,
  ⟨.NotEq,Qo,fun X h=>⟨_,L3.op_neA h.2.choose_spec,SS⟩⟩,
  ⟨.Lt,Hq,fun X h=>⟨_,eW.or (aK (Nat.lt_of_succ_lt (Sz h))),eM⟩⟩,
  ⟨.LtE,cU,fun X h=>⟨_,Q.op_leAQ.or (aL (Nat.lt_of_succ_lt (Sz h))),eN⟩⟩,
  ⟨.Gt,XY,fun X h=>⟨_,eY,OB⟩⟩,
  ⟨.GtE,jQ,fun X h=>⟨_,eZ,OB⟩⟩,
  ⟨.In,jP,fun X h=>⟨_,(Q.op_inQ h.2.choose_spec).or (aO (Sz h)),Zm⟩⟩]
 calls:=[⟨"len", 1,1,one Ac,fun X h=>⟨_,Zl,.inl ⟨_,(Qb X.K).or ND,PySem.boot_len⟩⟩⟩,
  ⟨"tuple", 1,1,one Bl,fun X h=>⟨_,SN,.inr ⟨_,LW X.K,PyProof.Rows.Boot.«tuple»⟩⟩⟩,
  ⟨"list", 1,1,one Ew,fun X h=>⟨_,Vl,.inr ⟨_,NC X.K,PyProof.Rows.Boot.«list»⟩⟩⟩,
  ⟨"int", 1,1,one Iw,fun X h=>⟨_,Vn,.inr ⟨_,Qe,PyProof.Rows.Boot.«int»⟩⟩⟩,
  ⟨"all", 1,1,one Qr,fun X h=>⟨_,Zo,.inl ⟨_,Qf X.K rfl h.1,PyProof.Rows.Boot.«all»⟩⟩⟩,
  ⟨"max", 2,1,two Ll,fun X h=>⟨_,Vk,.inl ⟨_,Qa h.1,PyProof.Rows.Boot.«max»⟩⟩⟩,
  ⟨"min", 2,1,two Iv,fun X h=>⟨_,Vj,.inl ⟨_,QZ h.1,PyProof.Rows.Boot.«min»⟩⟩⟩,
  ⟨"sorted", 1,1,one Dx,fun X h=>⟨_,PR,.inl ⟨_,(Jg X.K).or (NB (fJ h)),Lc⟩⟩⟩]
 meths:=[⟨"join", 1, "str", 1,two HX,.inl (.inr (.inl rfl)),fun X h=>⟨_,_,PySem.F.plainAttrs_str,PySem.F.slot_str_join,PySem.F.type_str_join,Sj X.K,Vm⟩⟩,
  ⟨"upper", 0, "str", 1,one Fi,.inl (.inr (.inl rfl)),fun X h=>⟨_,_,PySem.F.plainAttrs_str,PySem.F.slot_str_upper,PySem.F.type_str_upper,Si,SM⟩⟩,
  ⟨"index", 1, "list", 1,two Fj,.inl (.inl rfl),fun X h=>⟨_,_,PySem.F.plainAttrs_list,PySem.F.slot_list_index,PySem.F.type_list_index,Q.mt_indexD h.2.choose_spec,SR⟩⟩,
  ⟨"index", 1, "tuple", 1,two GR,.inr ⟨rfl,rfl⟩,fun X h=>⟨_,_,PySem.F.plainAttrs_tuple,PySem.F.slot_tuple_index,PySem.F.type_tuple_index,Q.mt_indexTD h.2.choose_spec,PU⟩⟩]
 muts:=[⟨"append", 1, "list", BB,.inl rfl,fun X h=>⟨_,_,PySem.F.plainAttrs_list,PySem.F.slot_list_append,PySem.F.type_list_append,Pl,Pj⟩⟩,
  ⟨"pop", 0, "list", Ju,.inl rfl,fun X h=>⟨_,_,PySem.F.plainAttrs_list,PySem.F.slot_list_pop,PySem.F.type_list_pop,aV,aT⟩⟩,
  ⟨"extend", 1, "list", Dy,.inl rfl,fun X h=>⟨_,_,PySem.F.plainAttrs_list,PySem.F.slot_list_extend,PySem.F.type_list_extend,Pk,Pi⟩⟩]
 srcs:=[⟨"range", 1,false,DJ,fun X h=>⟨_,Rn,fun tg es p pos ta _ hn hs hg hm ha=>by obtain ⟨a,rfl⟩:=gT hn;exact PZ hg hm ha (AF (by simpa using hs))⟩⟩,
  ⟨"range", 3,false,PL,fun X h=>⟨_,Rm,fun tg es p pos ta _ hn hs hg hm ha=>by
   obtain ⟨a,b,c,rfl⟩:=jZ hn;have z:Aq a=true/\Aq b=true/\Aq c=true:=by simpa using hs
   have s3:starEach [c] X.env=[(false,eval c X.env)]:=AF z.2.2;have s2:starEach [b,c] X.env=[(false,eval b X.env),(false,eval c X.env)]:=(AF z.2.1).trans (by rw [s3]);exact PY hg hm ha ((AF z.1).trans (by rw [s2])) s2⟩⟩,
  ⟨"enumerate", 1,true,Nr,fun X h=>⟨_,Ro,fun tg es p pos ta ht hn hs hg hm ha=>by
   obtain ⟨elts,x1,tpos,rfl⟩:=cn (ht rfl);obtain ⟨a,rfl⟩:=gT hn;exact SX X.K hg hm ha rfl (AF (by simpa using hs))⟩⟩,
  ⟨"reversed", 1,false,VW,fun X h=>⟨_,VL,fun tg es p pos ta _ hn hs hg hm ha=>by obtain ⟨a,rfl⟩:=gT hn;exact Zs X.K hg hm ha rfl (AF (by simpa using hs))⟩⟩]
 ix:=AB
 ixok:=fun X h=>⟨_,(hX X.K).or (fC (Sz h)),Zn⟩
 sl:=Ey
 slok:=fun X h=>⟨_,gw X.K,eL⟩
 tru:=Hr
 trok:=VC
 lr:=fun _=>none
 lrok:=fun X h=>jJ
 tr:=fun _=>none
 trrok:=fun X h=>jJ
 md:=fun _ _=>none
 mdok:=fun X h=>jI
 rv:=fun _ _=>none
 rvok:=fun X h=>jI
 lv:=De
 lvok:=fun X h=>MM
 st:=Bm
 stok:=fun X h=>⟨_,VU.or (ZP (Sz h)),ZO⟩
noncomputable def top (i:Nat):Stmt:=PySem.Challenge.pw_shapefree_k05_whole_replaced.main.body.getD i (.Pass ⟨0,0,0,0⟩)
def md:Md:=⟨tb,[],["len", "range", "tuple", "list", "zip", "isinstance", "enumerate", "all", "any", "int", "bool", "str", "sum", "max", "min", "reversed", "sorted", "dict", "repr", "set", "abs", "type", "ord", "chr"]⟩
noncomputable def gS:List (Str×Sig):=[]
noncomputable def Gb (d0:Dv):Option (Bool):=
(Cg d0 (Dv.str [100,111])).bind fun b1 =>
if b1=true then
some true
else
(Cg d0 (Dv.str [99,97,108,108])).bind fun b2 =>
some b2
noncomputable def Ga (d0:Dv):Option (Bool):=
(Cg d0 (Dv.str [108,101,116])).bind fun b6 =>
if b6=true then
some true
else
(Cg d0 (Dv.str [111,112])).bind fun b7 =>
some b7
noncomputable def BJ (a0:Dv):Option (Dv):=
(AB a0 (Dv.int 0)).bind fun d0 =>
((Gb d0)).bind fun t3 =>
if t3=true then
(AB a0 (Dv.int 2)).bind fun d4 =>
(Ew d4).bind fun d5 =>
some d5
else
((Ga d0)).bind fun t8 =>
if t8=true then
(AB a0 (Dv.int 2)).bind fun d9 =>
(AB a0 (Dv.int 3)).bind fun d10 =>
some (Dv.lst [d9,d10])
else
(Cg d0 (Dv.str [108,111,111,112])).bind fun b11 =>
if b11=true then
(AB a0 (Dv.int 2)).bind fun d12 =>
(AB a0 (Dv.int 4)).bind fun d13 =>
(AB a0 (Dv.int 5)).bind fun d14 =>
some (Dv.lst [d12,d13,d14])
else
(Cg d0 (Dv.str [112,105,99,107])).bind fun b15 =>
if b15=true then
(AB a0 (Dv.int 1)).bind fun d16 =>
(AB a0 (Dv.int 2)).bind fun d17 =>
(Ew d17).bind fun d18 =>
(Am (Dv.lst [d16]) d18).bind fun d19 =>
some d19
else
some (Dv.lst [])
theorem QW:Ex md gS (top 1) [] 1=true:=by kernel_rfl
theorem QP:Ha md gS (top 1) [] 1 (one BJ):=Ye (by kernel_rfl) fun _=>(by kernel_rfl)
def iM:List (Str×Sig):=("parts_in", AS (AC (top 1)) [] 1 false (one BJ))::gS
noncomputable def EU (d0:Dv):Option (Bool):=
(Cg d0 (Dv.str [100,111])).bind fun b1 =>
if b1=true then
some true
else
(Cg d0 (Dv.str [99,97,108,108])).bind fun b2 =>
some b2
noncomputable def ET (d0:Dv):Option (Bool):=
(Cg d0 (Dv.str [108,101,116])).bind fun b6 =>
if b6=true then
some true
else
(Cg d0 (Dv.str [111,112])).bind fun b7 =>
some b7
noncomputable def Bh (a0 a1:Dv):Option (Dv):=
(AB a0 (Dv.int 0)).bind fun d0 =>
((EU d0)).bind fun t3 =>
if t3=true then
(AB a0 (Dv.int 1)).bind fun d4 =>
(Bl a1).bind fun d5 =>
some (Dv.tup [d0,d4,d5])
else
((ET d0)).bind fun t8 =>
if t8=true then
(AB a0 (Dv.int 1)).bind fun d9 =>
(AB a1 (Dv.int 0)).bind fun d10 =>
(AB a1 (Dv.int 1)).bind fun d11 =>
some (Dv.tup [d0,d9,d10,d11])
else
(Cg d0 (Dv.str [108,111,111,112])).bind fun b12 =>
if b12=true then
(AB a0 (Dv.int 1)).bind fun d13 =>
(AB a1 (Dv.int 0)).bind fun d14 =>
(AB a0 (Dv.int 3)).bind fun d15 =>
(AB a1 (Dv.int 1)).bind fun d16 =>
(AB a1 (Dv.int 2)).bind fun d17 =>
some (Dv.tup [d0,d13,d14,d15,d16,d17])
else
(Cg d0 (Dv.str [112,105,99,107])).bind fun b18 =>
if b18=true then
(AB a1 (Dv.int 0)).bind fun d19 =>
(Ey a1 (some 1) none).bind fun d20 =>
(Bl d20).bind fun d21 =>
some (Dv.tup [d0,d19,d21])
else
some a0
theorem LS:Ex md iM (top 2) [] 0=true:=by kernel_rfl
theorem LH:Ha md iM (top 2) [] 0 (two Bh):=Yd (by kernel_rfl) fun _ _=>(by kernel_rfl)
def iL:List (Str×Sig):=("with_parts", AS (AC (top 2)) [] 0 false (two Bh))::iM
noncomputable def DP (t0:Dv×Dv):Option Bool:=
(Hr t0.2).bind fun b1 =>
some b1
noncomputable def BU (r2_1:Dv) (x7:Dv):Option Dv:=
(Xi [6,7] x7).bind fun (t8:Dv×Dv) =>
(AB r2_1 (Dv.int 0)).bind fun d9 =>
(Am d9 (Dv.tup [t8.1])).bind fun d10 =>
some (Dv.tup [d10,t8.2])
noncomputable def BV (t0:Dv×Dv):Option (Dv×Dv):=
HZ "list" t0.2 (
(Ju t0.2 []).bind fun r2 =>
HZ "list" t0.1 (
(BB t0.1 [r2.1]).bind fun r3 =>
(AB r2.1 (Dv.int 1)).bind fun d4 =>
(BJ d4).bind fun c5 =>
(Nr [c5]).bind fun s6 =>
Ln s6 ((EC (BU r2.1) s6).bind fun y11 =>
HZ "list" r2.2 (
(De (Dv.lst y11)).bind fun d12 =>
(Dy r2.2 [d12]).bind fun r13 =>
some (r3.2,r13.2)))))
noncomputable def BF (a0:Dv):Option (Dv):=
(Xg DP BV 1000000 ((Dv.lst []),(Dv.lst [(Dv.tup [(Dv.tup []),a0])]))).bind fun t14 =>
some t14.1
theorem Hl:Ex md iL (top 3) [] 1=true:=by kernel_rfl
theorem Hk:Ha md iL (top 3) [] 1 (one BF):=Ye (by kernel_rfl) fun _=>(by kernel_rfl)
def iK:List (Str×Sig):=("placed_parts", AS (AC (top 3)) [] 1 false (one BF))::iL
noncomputable def KQ (x2:Dv):Option Dv:=
(AB x2 (Dv.int 1)).bind fun d3 =>
some d3
noncomputable def CY (a0:Dv):Option (Dv):=
(BF a0).bind fun c0 =>
(items c0).bind fun s1 =>
Ln s1 ((EC KQ s1).bind fun y4 =>
some (Dv.lst y4))
theorem Wm:Ex md iK (top 4) [] 1=true:=by kernel_rfl
theorem Wb:Ha md iK (top 4) [] 1 (one CY):=Ye (by kernel_rfl) fun _=>(by kernel_rfl)
def iJ:List (Str×Sig):=("parts", AS (AC (top 4)) [] 1 false (one CY))::iK
noncomputable def IF (x2:Dv):Option Dv:=
(AB x2 (Dv.int 0)).bind fun d3 =>
some d3
noncomputable def Dj (a0:Dv):Option (Dv):=
(BF a0).bind fun c0 =>
(items c0).bind fun s1 =>
Ln s1 ((EC IF s1).bind fun y4 =>
some (Dv.lst y4))
theorem Ts:Ex md iJ (top 5) [] 1=true:=by kernel_rfl
theorem Te:Ha md iJ (top 5) [] 1 (one Dj):=Ye (by kernel_rfl) fun _=>(by kernel_rfl)
def iI:List (Str×Sig):=("places", AS (AC (top 5)) [] 1 false (one Dj))::iJ
noncomputable def Di (x1:Dv) (t2:Dv):Option (Lp Dv (Dv) (Unit)):=
(BJ t2).bind fun c3 =>
(cU (Dv.int 0) x1).bind fun b4 =>
if b4=true then
(Ac c3).bind fun d5 =>
(Hq x1 d5).bind fun b6 =>
if (!b6)=true then
some (.rt Dv.non ())
else
(AB c3 x1).bind fun d7 =>
some (.go d7)
else
if (!false)=true then
some (.rt Dv.non ())
else
(AB c3 x1).bind fun d8 =>
some (.go d8)
noncomputable def EY (a0 a1:Dv):Option (Dv):=
(items a1).bind fun s0 =>
(GG Di s0 a0).bind fun l12=>l12.el (fun (t9:Dv) =>
some t9) fun (e10:Dv) (r11:Unit) =>
some e10
theorem Tt:Ex md iI (top 6) [] 0=true:=by kernel_rfl
theorem Tf:Ha md iI (top 6) [] 0 (two EY):=Yd (by kernel_rfl) fun _ _=>(by kernel_rfl)
def iH:List (Str×Sig):=("part_at", AS (AC (top 6)) [] 0 false (two EY))::iI
noncomputable def CV (x1:Dv) (t2:Dv×Dv):Option (Dv×Dv):=
HZ "list" t2.1 (
(BB t2.1 [(Dv.tup [t2.2,x1])]).bind fun r3 =>
(BJ t2.2).bind fun c4 =>
(AB c4 x1).bind fun d5 =>
some (r3.2,d5))
noncomputable def CU (x8:Dv) (t9:Dv):Option (Dv):=
(AB x8 (Dv.int 0)).bind fun d10 =>
(BJ d10).bind fun c11 =>
(AB x8 (Dv.int 1)).bind fun d12 =>
(Bm c11 d12 t9).bind fun d13 =>
(AB x8 (Dv.int 0)).bind fun d14 =>
(Bh d14 d13).bind fun c15 =>
some c15
noncomputable def Aw (a0 a1 a2:Dv):Option (Dv):=
(items a1).bind fun s0 =>
(Br CV s0 ((Dv.lst []),a0)).bind fun t6 =>
(VW [t6.1]).bind fun s7 =>
(Br CU s7 a2).bind fun t16 =>
some t16
theorem Mx:Ex md iH (top 7) [] 0=true:=by kernel_rfl
theorem Mo:Ha md iH (top 7) [] 0 (GV Aw):=iZ (by kernel_rfl) fun _ _ _=>(by kernel_rfl)
def iG:List (Str×Sig):=("replaced", AS (AC (top 7)) [] 0 false (GV Aw))::iH
noncomputable def KM (a0:Dv) (a1:Dv) (d1:Dv):Option (Dv):=
(Ac a0).bind fun d5 =>
(XY d5 (Dv.int 0)).bind fun b6 =>
if b6=true then
(Ac a0).bind fun d7 =>
(DL a1 d7).bind fun d8 =>
(AB a0 d8).bind fun d9 =>
(DL d9 (Dv.int 2147483629)).bind fun d10 =>
(DH d10 (Dv.int 31)).bind fun d11 =>
(DH (Dv.int 7907) a1).bind fun d12 =>
(Am d11 d12).bind fun d13 =>
some d13
else
some d1
noncomputable def Gh (a0:Dv) (a1:Dv) (d1:Dv):Option (Dv):=
(Ac a0).bind fun d2 =>
(Hq a1 d2).bind fun b3 =>
if b3=true then
(AB a0 a1).bind fun d4 =>
some d4
else
((KM a0 a1 d1)).bind fun t14 =>
some t14
noncomputable def Gg (t15:Dv):Option (Dv):=
(cK (Dv.int 10) (Dv.int 18)).bind fun d16 =>
(jQ t15 d16).bind fun b17 =>
if b17=true then
some t15
else
some (Dv.int 0)
noncomputable def Gj (a0 a1:Dv):Option (Dv):=
(DH (Dv.int 7907) a1).bind fun d0 =>
(Am d0 (Dv.int 13579)).bind fun d1 =>
((Gh a0 a1 d1)).bind fun t15 =>
((Gg t15)).bind fun t18 =>
(DL t15 (Dv.int 2147483629)).bind fun d19 =>
(DH d19 (Dv.int 48271)).bind fun d20 =>
(DH (Dv.int 40692) a1).bind fun d21 =>
(Am d20 d21).bind fun d22 =>
(DL d22 (Dv.int 2147483646)).bind fun d23 =>
(Am d23 (Dv.int 1)).bind fun d24 =>
some (Dv.lst [t18,d24])
theorem Wr:Ex md iG (top 9) [] 1=true:=by kernel_rfl
theorem Wg:Ha md iG (top 9) [] 1 (two Gj):=Yd (by kernel_rfl) fun _ _=>(by kernel_rfl)
def iF:List (Str×Sig):=("_law_feed", AS (AC (top 9)) [] 1 false (two Gj))::iG
noncomputable def AJ (a0 a1:Dv):Option (Dv×Dv):=
(AB a0 (Dv.int 0)).bind fun d0 =>
(XY d0 (Dv.int 0)).bind fun b1 =>
if b1=true then
(AB a0 (Dv.int 0)).bind fun d2 =>
(DL d2 a1).bind fun d3 =>
(AB a0 (Dv.int 0)).bind fun d4 =>
(EE d4 a1).bind fun d5 =>
(Bm a0 (Dv.int 0) d5).bind fun d6 =>
some (d3,d6)
else
(AB a0 (Dv.int 1)).bind fun d7 =>
(DH d7 (Dv.int 48271)).bind fun d8 =>
(DL d8 (Dv.int 2147483647)).bind fun d9 =>
(DH d9 (Dv.int 40692)).bind fun d10 =>
(Am d10 (Dv.int 30103)).bind fun d11 =>
(DL d11 (Dv.int 2147483399)).bind fun d12 =>
(Am d12 (Dv.int 1)).bind fun d13 =>
(Bm a0 (Dv.int 1) d13).bind fun d14 =>
(DH d9 (Dv.int 2147483647)).bind fun d15 =>
(AB d14 (Dv.int 1)).bind fun d16 =>
(Am d15 d16).bind fun d17 =>
(EE d17 (Dv.int 8191)).bind fun d18 =>
(DL d18 a1).bind fun d19 =>
some (d19,d14)
theorem Wp:Ex md iF (top 10) [0] 1=true:=by kernel_rfl
theorem We:Ha md iF (top 10) [0] 1 (two AJ):=Yd (by kernel_rfl) fun _ _=>(by kernel_rfl)
def iE:List (Str×Sig):=("_law_take", AS (AC (top 10)) [0] 1 false (two AJ))::iF
noncomputable def Dh (x2:Dv) (t3:Dv):Option (Dv×Dv):=
(AJ t3 (Dv.int 26)).bind fun c4 =>
(AB (Dv.str [97,98,99,100,101,102,103,104,105,106,107,108,109,110,111,112,113,114,115,116,117,118,119,120,121,122]) c4.1).bind fun d5 =>
some (d5,c4.2)
noncomputable def FI (d28:Dv):Option (Dv):=
(jP d28 (Dv.tup [(Dv.str [100,101,102]),(Dv.str [108,101,116]),(Dv.str [116,101,108,108]),(Dv.str [108,111,111,112]),(Dv.str [112,105,99,107]),(Dv.str [99,97,108,108])])).bind fun b29 =>
if b29=true then
(Am d28 (Dv.str [113])).bind fun d30 =>
some d30
else
some d28
noncomputable def FM (d7:Dv) (c8_1:Dv) (c11_1:Dv) (c12_1:Dv) (x14:Dv) (t15:Dv):Option (Dv):=
(DH (Dv.int 7) x14).bind fun d16 =>
(Am c8_1 d16).bind fun d17 =>
(DL d17 (Dv.int 26)).bind fun d18 =>
(AB (Dv.str [97,98,99,100,101,102,103,104,105,106,107,108,109,110,111,112,113,114,115,116,117,118,119,120,121,122]) d18).bind fun d19 =>
Xb c11_1 fun i20 =>
(Ey d7 none (some i20)).bind fun d21 =>
(Am d21 d19).bind fun d22 =>
Xb c11_1 fun i23 =>
(Am c12_1 x14).bind fun d24 =>
(DL d24 (Dv.int 4)).bind fun d25 =>
Xb d25 fun i26 =>
(Ey d7 (some i23) (some i26)).bind fun d27 =>
(Am d22 d27).bind fun d28 =>
((FI d28)).bind fun t31 =>
HZ "list" t15 (
(BB t15 [t31]).bind fun r32 =>
some r32.2)
noncomputable def IE (c12_2:Dv) (t33:Dv):Option (Bool×Dv):=
(HV (Dv.int 2)).bind fun d35 =>
(AB t33 d35).bind fun d36 =>
(Ac d36).bind fun d37 =>
(Hq d37 (Dv.int 4)).bind fun b38 =>
if b38=true then
(AJ c12_2 (Dv.int 4)).bind fun c39 =>
(Cg c39.1 (Dv.int 0)).bind fun b40 =>
some (b40,c39.2)
else
some (false,c12_2)
noncomputable def FF (a1:Dv) (c12_2:Dv) (t33:Dv):Option (Bool×Dv):=
(XY a1 (Dv.int 1)).bind fun b34 =>
if b34=true then
((IE c12_2 t33)).bind fun t41 =>
some (t41.1,t41.2)
else
some (false,c12_2)
noncomputable def FH (a1:Dv) (c12_2:Dv) (t33:Dv):Option (Dv×Dv):=
((FF a1 c12_2 t33)).bind fun t42 =>
if t42.1=true then
(HV (Dv.int 2)).bind fun d43 =>
(AB t33 d43).bind fun d44 =>
(Am d44 (Dv.str [113])).bind fun d45 =>
(HV (Dv.int 1)).bind fun d46 =>
(Bm t33 d46 d45).bind fun d47 =>
some (t42.2,d47)
else
some (t42.2,t33)
noncomputable def Dk (a0 a1:Dv):Option (Dv×Dv):=
HZ "str" (Dv.str []) (
(AJ a0 (Dv.int 4)).bind fun c0 =>
(DJ [c0.1]).bind fun s1 =>
Ln s1 ((Et Dh s1 c0.2).bind fun p6 =>
(HX (Dv.str []) (Dv.lst p6.1)).bind fun d7 =>
(AJ p6.2 (Dv.int 26)).bind fun c8 =>
(Ac d7).bind fun d9 =>
(Am d9 (Dv.int 1)).bind fun d10 =>
(AJ c8.2 d10).bind fun c11 =>
(AJ c11.2 (Dv.int 4)).bind fun c12 =>
(DJ [a1]).bind fun s13 =>
(Br (FM d7 c8.1 c11.1 c12.1) s13 (Dv.lst [])).bind fun t33 =>
((FH a1 c12.2 t33)).bind fun t48 =>
some (t48.2,t48.1)))
theorem Tv:Ex md iE (top 11) [0] 1=true:=by kernel_rfl
theorem Ti:Ha md iE (top 11) [0] 1 (two Dk):=Yd (by kernel_rfl) fun _ _=>(by kernel_rfl)
def bI:List (Str×Sig):=("_law_names", AS (AC (top 11)) [0] 1 false (two Dk))::iE
noncomputable def Gc (a2:Dv) (a3:Dv):Option (Bool):=
(XY a2 (Dv.int 2)).bind fun b2 =>
if b2=true then
(XY a3 (Dv.int 0)).bind fun b3 =>
some b3
else
some false
noncomputable def EK (a2:Dv) (a3:Dv) (c0_1:Dv):Option (Bool):=
(Hq c0_1 (Dv.int 3)).bind fun b1 =>
if b1=true then
((Gc a2 a3)).bind fun t4 =>
some t4
else
some false
noncomputable def Al:Nat->Dv->Dv->Dv->Dv->Option (Dv×Dv)
 | 0,_,_,_,_=>none
 | n+1,a0,a1,a2,a3=>(
(AJ a0 (Dv.int 5)).bind fun c0 =>
((EK a2 a3 c0.1)).bind fun t5 =>
if t5=true then
(EE a2 (Dv.int 2)).bind fun d6 =>
(Ap a2 (Dv.int 2)).bind fun d7 =>
(AJ c0.2 d7).bind fun c8 =>
(Am (Dv.int 1) c8.1).bind fun d9 =>
(AJ c8.2 (Dv.int 3)).bind fun c10 =>
(AB (Dv.lst [(Dv.int 1),d6,d9]) c10.1).bind fun d11 =>
(Ap a3 (Dv.int 1)).bind fun d12 =>
(Al n c10.2 a1 d11 d12).bind fun c13 =>
(AJ c13.2 (Dv.int 4)).bind fun c14 =>
(AB (Dv.str [43,42,58,60]) c14.1).bind fun d15 =>
(Ap a2 (Dv.int 1)).bind fun d16 =>
(Ap d16 d11).bind fun d17 =>
(Ap a3 (Dv.int 1)).bind fun d18 =>
(Al n c14.2 a1 d17 d18).bind fun c19 =>
some ((Dv.tup [(Dv.str [111,112]),d15,c13.1,c19.1]),c19.2)
else
(Cg c0.1 (Dv.int 4)).bind fun b20 =>
if b20=true then
(Ac a1).bind fun d21 =>
(AJ c0.2 d21).bind fun c22 =>
(AB a1 c22.1).bind fun d23 =>
some ((Dv.tup [(Dv.str [99,111,117,110,116]),d23]),c22.2)
else
(AJ c0.2 (Dv.int 4)).bind fun c24 =>
(AJ c24.2 (Dv.int 1000000)).bind fun c25 =>
(AJ c25.2 (Dv.int 2)).bind fun c26 =>
(Ap (Dv.int 999999) c26.1).bind fun d27 =>
(AJ c26.2 (Dv.int 3)).bind fun c28 =>
(AB (Dv.lst [c24.1,c25.1,d27]) c28.1).bind fun d29 =>
some ((Dv.tup [(Dv.str [110,117,109]),d29]),c28.2))
theorem QX (n:Nat):Ex md (("_law_figure", AS (AC (top 12)) [0] 1 false (El (Al n)))::bI) (top 12) [0] 1=true:=by kernel_rfl
theorem QQ (n:Nat):Ha md (("_law_figure", AS (AC (top 12)) [0] 1 false (El (Al n)))::bI) (top 12) [0] 1 (El (Al (n+1))):=iY (by kernel_rfl) fun _ _ _ _=>(by kernel_rfl)
def Bq:Dv->Dv->Dv->Dv->Option (Dv×Dv):=(Classical.choice (⟨⟨Al 40,rfl⟩⟩:Nonempty {f:Dv->Dv->Dv->Dv->Option (Dv×Dv) // f=Al 40})).1
theorem DW:Bq=Al 40:=(Classical.choice (⟨⟨Al 40,rfl⟩⟩:Nonempty {f:Dv->Dv->Dv->Dv->Option (Dv×Dv) // f=Al 40})).2
def TK:List (Str×Sig):=("_law_figure", AS (AC (top 12)) [0] 1 false (El Bq))::bI
noncomputable def FP (a0 a1:Dv):Option (Dv×Dv):=
(Ac a1).bind fun d0 =>
(AJ a0 d0).bind fun c1 =>
(AB a1 c1.1).bind fun d2 =>
(AJ c1.2 (Dv.int 8)).bind fun c3 =>
(Cg c3.1 (Dv.int 7)).bind fun b4 =>
if b4=true then
(AJ c3.2 (Dv.int 3)).bind fun c5 =>
some ((Dv.tup [(Dv.str [105,110,112,117,116]),c5.1]),c5.2)
else
(Ey d2 none (some 1)).bind fun d6 =>
HZ "str" d6 (
(Fi d6).bind fun d7 =>
(Ey d2 (some 1) none).bind fun d8 =>
(Am d7 d8).bind fun d9 =>
(DL c3.1 (Dv.int 2)).bind fun d10 =>
(AB (Dv.lst [(Dv.tup [(Dv.str [110,97,109,101]),d2]),(Dv.tup [(Dv.str [102,105,120,101,100]),d9])]) d10).bind fun d11 =>
some (d11,c3.2))
theorem Wq:Ex md TK (top 13) [0] 0=true:=by kernel_rfl
theorem Wf:Ha md TK (top 13) [0] 0 (two FP):=Yd (by kernel_rfl) fun _ _=>(by kernel_rfl)
def bH:List (Str×Sig):=("_law_last", AS (AC (top 13)) [0] 0 false (two FP))::TK
noncomputable def Nk (a3:Dv) (c0_1:Dv):Option (Bool):=
(Hq a3 (Dv.int 1)).bind fun b2 =>
if b2=true then
some true
else
(Cg c0_1 (Dv.int 0)).bind fun b3 =>
some b3
noncomputable def JD (a2:Dv) (a3:Dv) (c0_1:Dv):Option (Bool):=
(Hq a2 (Dv.int 5)).bind fun b1 =>
if b1=true then
some true
else
((Nk a3 c0_1)).bind fun t4 =>
some t4
noncomputable def JI (self:Dv->Dv->Dv->Dv->Option (Dv×Dv)) (a1:Dv) (a2:Dv) (a3:Dv) (d33:Dv) (x40:Dv) (t41:Dv):Option (Dv×Dv):=
(Ap a2 (Dv.int 1)).bind fun d42 =>
(Am d33 (Dv.int 1)).bind fun d43 =>
(EE d42 d43).bind fun d44 =>
(Ap a3 (Dv.int 1)).bind fun d45 =>
(self t41 a1 d44 d45).bind fun c46 =>
some (c46.1,c46.2)
noncomputable def JC (c0_1:Dv) (t57_1:Dv):Option (Bool×Dv):=
(Cg c0_1 (Dv.int 5)).bind fun b58 =>
if b58=true then
(AJ t57_1 (Dv.int 2)).bind fun c59 =>
(Cg c59.1 (Dv.int 0)).bind fun b60 =>
some (b60,c59.2)
else
some (false,t57_1)
noncomputable def JH (self:Dv->Dv->Dv->Dv->Option (Dv×Dv)) (a1:Dv) (a2:Dv) (a3:Dv) (c0_1:Dv) (d54:Dv) (t57_1:Dv) (t57_2:Dv):Option (Dv×Dv):=
((JC c0_1 t57_1)).bind fun t61 =>
if t61.1=true then
HZ "list" t57_2 (
(Ap a2 (Dv.int 1)).bind fun d62 =>
(EE d62 d54).bind fun d63 =>
(Ap a3 (Dv.int 1)).bind fun d64 =>
(Bq t61.2 a1 d63 d64).bind fun c65 =>
(BB t57_2 [c65.1]).bind fun r66 =>
some (c65.2,r66.2))
else
HZ "list" t57_2 (
(Ap a2 (Dv.int 1)).bind fun d67 =>
(EE d67 d54).bind fun d68 =>
(Ap a3 (Dv.int 1)).bind fun d69 =>
(self t61.2 a1 d68 d69).bind fun c70 =>
(BB t57_2 [c70.1]).bind fun r71 =>
some (c70.2,r71.2))
noncomputable def GK (self:Dv->Dv->Dv->Dv->Option (Dv×Dv)) (a1:Dv) (a2:Dv) (a3:Dv) (c0_1:Dv) (d54:Dv) (x56:Dv) (t57:Dv×Dv):Option (Dv×Dv):=
((JH (self) a1 a2 a3 c0_1 d54 t57.1 t57.2)).bind fun t72 =>
some (t72.1,t72.2)
noncomputable def BW:Nat->Dv->Dv->Dv->Dv->Option (Dv×Dv)
 | 0,_,_,_,_=>none
 | n+1,a0,a1,a2,a3=>(
(AJ a0 (Dv.int 9)).bind fun c0 =>
((JD a2 a3 c0.1)).bind fun t5 =>
if t5=true then
(FP c0.2 a1).bind fun c6 =>
some (c6.1,c6.2)
else
(Ac a1).bind fun d7 =>
(AJ c0.2 d7).bind fun c8 =>
(AB a1 c8.1).bind fun d9 =>
(Hq c0.1 (Dv.int 3)).bind fun b10 =>
if b10=true then
(Ap a2 (Dv.int 1)).bind fun d11 =>
(EE d11 (Dv.int 2)).bind fun d12 =>
(Ap a3 (Dv.int 1)).bind fun d13 =>
(BW n c8.2 a1 d12 d13).bind fun c14 =>
(Ap a2 (Dv.int 1)).bind fun d15 =>
(EE d15 (Dv.int 2)).bind fun d16 =>
(Ap a3 (Dv.int 1)).bind fun d17 =>
(BW n c14.2 a1 d16 d17).bind fun c18 =>
some ((Dv.tup [(Dv.str [108,101,116]),d9,c14.1,c18.1]),c18.2)
else
(Cg c0.1 (Dv.int 3)).bind fun b19 =>
if b19=true then
(Ap a2 (Dv.int 1)).bind fun d20 =>
(EE d20 (Dv.int 3)).bind fun d21 =>
(Ap a3 (Dv.int 1)).bind fun d22 =>
(Bq c8.2 a1 d21 d22).bind fun c23 =>
(Ap a3 (Dv.int 1)).bind fun d24 =>
(BW n c23.2 a1 d21 d24).bind fun c25 =>
(Ac a1).bind fun d26 =>
(AJ c25.2 d26).bind fun c27 =>
(AB a1 c27.1).bind fun d28 =>
(Ap a3 (Dv.int 1)).bind fun d29 =>
(BW n c27.2 a1 d21 d29).bind fun c30 =>
some ((Dv.tup [(Dv.str [108,111,111,112]),d28,c23.1,d9,c25.1,c30.1]),c30.2)
else
(Cg c0.1 (Dv.int 4)).bind fun b31 =>
if b31=true then
(AJ c8.2 (Dv.int 3)).bind fun c32 =>
(Am (Dv.int 1) c32.1).bind fun d33 =>
(Ap a2 (Dv.int 1)).bind fun d34 =>
(Am d33 (Dv.int 1)).bind fun d35 =>
(EE d34 d35).bind fun d36 =>
(Ap a3 (Dv.int 1)).bind fun d37 =>
(Bq c32.2 a1 d36 d37).bind fun c38 =>
(DJ [d33]).bind fun s39 =>
Ln s39 ((Et (JI (BW n) a1 a2 a3 d33) s39 c38.2).bind fun p47 =>
(Bl (Dv.lst p47.1)).bind fun d48 =>
some ((Dv.tup [(Dv.str [112,105,99,107]),c38.1,d48]),p47.2))
else
(AJ c8.2 (Dv.int 4)).bind fun c49 =>
(AJ c49.2 (Dv.int 2)).bind fun c50 =>
(Am (Dv.int 1) c50.1).bind fun d51 =>
(XY c0.1 (Dv.int 5)).bind fun b52 =>
(Iw (Dv.bl b52)).bind fun d53 =>
(AB (Dv.lst [c49.1,d51]) d53).bind fun d54 =>
(DJ [d54]).bind fun s55 =>
(Br (GK (BW n) a1 a2 a3 c0.1 d54) s55 (c50.2,(Dv.lst []))).bind fun t73 =>
(Cg c0.1 (Dv.int 5)).bind fun b74 =>
(Iw (Dv.bl b74)).bind fun d75 =>
(AB (Dv.lst [(Dv.str [100,111]),(Dv.str [99,97,108,108])]) d75).bind fun d76 =>
(Bl t73.2).bind fun d77 =>
some ((Dv.tup [d76,d9,d77]),t73.1))
theorem bR (n:Nat):Ex md (("_law_any", AS (AC (top 14)) [0] 0 false (El (BW n)))::bH) (top 14) [0] 0=true:=by kernel_rfl
theorem bM (n:Nat):Ha md (("_law_any", AS (AC (top 14)) [0] 0 false (El (BW n)))::bH) (top 14) [0] 0 (El (BW (n+1))):=iY (by kernel_rfl) fun _ _ _ _=>(by kernel_rfl)
def IW:Dv->Dv->Dv->Dv->Option (Dv×Dv):=(Classical.choice (⟨⟨BW 40,rfl⟩⟩:Nonempty {f:Dv->Dv->Dv->Dv->Option (Dv×Dv) // f=BW 40})).1
theorem LB:IW=BW 40:=(Classical.choice (⟨⟨BW 40,rfl⟩⟩:Nonempty {f:Dv->Dv->Dv->Dv->Option (Dv×Dv) // f=BW 40})).2
def TJ:List (Str×Sig):=("_law_any", AS (AC (top 14)) [0] 0 false (El IW))::bH
noncomputable def Ck (a0 a1 a2:Dv):Option (Dv×Dv):=
(Ac a1).bind fun d0 =>
(AJ a0 d0).bind fun c1 =>
(AB a1 c1.1).bind fun d2 =>
(FP c1.2 a1).bind fun c3 =>
(Am (Dv.lst [(Dv.tup [(Dv.str [100,111]),d2,(Dv.tup [a2])]),(Dv.tup [(Dv.str [108,101,116]),d2,a2,c3.1]),(Dv.tup [(Dv.str [108,101,116]),d2,c3.1,a2]),(Dv.tup [(Dv.str [112,105,99,107]),(Dv.tup [(Dv.str [110,117,109]),(Dv.int 0)]),(Dv.tup [a2])])]) (Dv.lst [(Dv.tup [(Dv.str [99,97,108,108]),d2,(Dv.tup [a2])]),(Dv.tup [(Dv.str [100,111]),d2,(Dv.tup [c3.1,a2])]),(Dv.tup [(Dv.str [112,105,99,107]),(Dv.tup [(Dv.str [110,117,109]),(Dv.int 1)]),(Dv.tup [c3.1,a2])])])).bind fun d4 =>
(AJ c3.2 (Dv.int 7)).bind fun c5 =>
(AB d4 c5.1).bind fun d6 =>
some (d6,c5.2)
theorem Mz:Ex md TJ (top 15) [0] 0=true:=by kernel_rfl
theorem Mp:Ha md TJ (top 15) [0] 0 (GV Ck):=iZ (by kernel_rfl) fun _ _ _=>(by kernel_rfl)
def bG:List (Str×Sig):=("_law_wrapped", AS (AC (top 15)) [0] 0 false (GV Ck))::TJ
noncomputable def Gi (c0_1:Dv) (x14:Dv) (t15:Dv×Dv):Option (Dv×Dv):=
(Ck t15.1 c0_1 t15.2).bind fun c16 =>
some (c16.2,c16.1)
noncomputable def FO (a0:Dv):Option (Dv×Dv):=
(Dk a0 (Dv.int 5)).bind fun c0 =>
(AJ c0.2 (Dv.int 8)).bind fun c1 =>
(Cg c1.1 (Dv.int 0)).bind fun b2 =>
if b2=true then
(Bq c1.2 c0.1 (Dv.int 40) (Dv.int 15)).bind fun c3 =>
some (c3.1,c3.2)
else
(Hq c1.1 (Dv.int 5)).bind fun b4 =>
if b4=true then
(Ap c1.1 (Dv.int 1)).bind fun d5 =>
(AB (Dv.lst [(Dv.int 9),(Dv.int 25),(Dv.int 60),(Dv.int 60)]) d5).bind fun d6 =>
(IW c1.2 c0.1 d6 (Dv.int 15)).bind fun c7 =>
some (c7.1,c7.2)
else
(AJ c1.2 (Dv.int 11)).bind fun c8 =>
(DH (Dv.int 4) c8.1).bind fun d9 =>
(Ap (Dv.int 60) d9).bind fun d10 =>
(Ap (Dv.int 15) c8.1).bind fun d11 =>
(IW c8.2 c0.1 d10 d11).bind fun c12 =>
(DJ [c8.1]).bind fun s13 =>
(Br (Gi c0.1) s13 (c12.2,c12.1)).bind fun t17 =>
some (t17.2,t17.1)
theorem Wo:Ex md bG (top 16) [0] 0=true:=by kernel_rfl
theorem Wd:Ha md bG (top 16) [0] 0 (one FO):=Ye (by kernel_rfl) fun _=>(by kernel_rfl)
def bF:List (Str×Sig):=("_law_tree", AS (AC (top 16)) [0] 0 false (one FO))::bG
noncomputable def KJ (d0:Dv):Option (Bool):=
(Cg d0 (Dv.str [100,111])).bind fun b1 =>
if b1=true then
some true
else
(Cg d0 (Dv.str [99,97,108,108])).bind fun b2 =>
some b2
noncomputable def KI (d0:Dv):Option (Bool):=
(Cg d0 (Dv.str [108,101,116])).bind fun b6 =>
if b6=true then
some true
else
(Cg d0 (Dv.str [111,112])).bind fun b7 =>
some b7
noncomputable def Cm (a0:Dv):Option (Dv):=
(AB a0 (Dv.int 0)).bind fun d0 =>
((KJ d0)).bind fun t3 =>
if t3=true then
(AB a0 (Dv.int 2)).bind fun d4 =>
(Ew d4).bind fun d5 =>
some d5
else
((KI d0)).bind fun t8 =>
if t8=true then
(AB a0 (Dv.int 2)).bind fun d9 =>
(AB a0 (Dv.int 3)).bind fun d10 =>
some (Dv.lst [d9,d10])
else
(Cg d0 (Dv.str [108,111,111,112])).bind fun b11 =>
if b11=true then
(AB a0 (Dv.int 2)).bind fun d12 =>
(AB a0 (Dv.int 4)).bind fun d13 =>
(AB a0 (Dv.int 5)).bind fun d14 =>
some (Dv.lst [d12,d13,d14])
else
(Cg d0 (Dv.str [112,105,99,107])).bind fun b15 =>
if b15=true then
(AB a0 (Dv.int 1)).bind fun d16 =>
(AB a0 (Dv.int 2)).bind fun d17 =>
(Ew d17).bind fun d18 =>
(Am (Dv.lst [d16]) d18).bind fun d19 =>
some d19
else
some (Dv.lst [])
theorem NA:Ex md bF (top 17) [] 1=true:=by kernel_rfl
theorem Mq:Ha md bF (top 17) [] 1 (one Cm):=Ye (by kernel_rfl) fun _=>(by kernel_rfl)
def bE:List (Str×Sig):=("_law_right_in", AS (AC (top 17)) [] 1 false (one Cm))::bF
noncomputable def GZ (t0:Dv×Dv):Option Bool:=
(Ac t0.1).bind fun d1 =>
(XY d1 (Dv.int 0)).bind fun b2 =>
some b2
noncomputable def EX (t4_1:Dv) (c6:Dv) (x12:Dv) (t13:Dv):Option (Dv):=
HZ "list" t13 (
(Am t4_1 (Dv.tup [x12])).bind fun d14 =>
(AB c6 x12).bind fun d15 =>
(BB t13 [(Dv.tup [d14,d15])]).bind fun r16 =>
some r16.2)
noncomputable def EW (t0:Dv×Dv):Option (Dv×Dv):=
HZ "list" t0.1 (
(Ju t0.1 []).bind fun r3 =>
(Xi [3,4] r3.1).bind fun (t4:Dv×Dv) =>
HZ "list" t0.2 (
(BB t0.2 [(Dv.tup [t4.1,t4.2])]).bind fun r5 =>
(Cm t4.2).bind fun c6 =>
(Ac c6).bind fun d7 =>
(Ap d7 (Dv.int 1)).bind fun d8 =>
(HV (Dv.int 1)).bind fun d9 =>
(HV (Dv.int 1)).bind fun d10 =>
(PL [d8,d9,d10]).bind fun s11 =>
(Br (EX t4.1 c6) s11 r3.2).bind fun t17 =>
some (t17,r5.2)))
noncomputable def FN (a0:Dv):Option (Dv):=
(Xg GZ EW 1000000 ((Dv.lst [(Dv.tup [(Dv.tup []),a0])]),(Dv.lst []))).bind fun t18 =>
some t18.2
theorem Wn:Ex md bE (top 18) [] 1=true:=by kernel_rfl
theorem Wc:Ha md bE (top 18) [] 1 (one FN):=Ye (by kernel_rfl) fun _=>(by kernel_rfl)
def bD:List (Str×Sig):=("_law_walk", AS (AC (top 18)) [] 1 false (one FN))::bE
noncomputable def Nj (d9:Dv):Option (Bool):=
(Cg d9 (Dv.str [100,111])).bind fun b10 =>
if b10=true then
some true
else
(Cg d9 (Dv.str [99,97,108,108])).bind fun b11 =>
some b11
noncomputable def Ni (d9:Dv):Option (Bool):=
(Cg d9 (Dv.str [108,101,116])).bind fun b15 =>
if b15=true then
some true
else
(Cg d9 (Dv.str [111,112])).bind fun b16 =>
some b16
noncomputable def CH:Nat->Dv->Dv->Dv->Option (Dv)
 | 0,_,_,_=>none
 | n+1,a0,a1,a2=>(
(Ac a1).bind fun d0 =>
(Cg d0 (Dv.int 0)).bind fun b1 =>
if b1=true then
some a2
else
(Cm a0).bind fun c2 =>
(AB a1 (Dv.int 0)).bind fun d3 =>
(AB c2 d3).bind fun d4 =>
(Ey a1 (some 1) none).bind fun d5 =>
(CH n d4 d5 a2).bind fun c6 =>
(AB a1 (Dv.int 0)).bind fun d7 =>
(Bm c2 d7 c6).bind fun d8 =>
(AB a0 (Dv.int 0)).bind fun d9 =>
((Nj d9)).bind fun t12 =>
if t12=true then
(AB a0 (Dv.int 1)).bind fun d13 =>
(Bl d8).bind fun d14 =>
some (Dv.tup [d9,d13,d14])
else
((Ni d9)).bind fun t17 =>
if t17=true then
(AB a0 (Dv.int 1)).bind fun d18 =>
(AB d8 (Dv.int 0)).bind fun d19 =>
(AB d8 (Dv.int 1)).bind fun d20 =>
some (Dv.tup [d9,d18,d19,d20])
else
(Cg d9 (Dv.str [108,111,111,112])).bind fun b21 =>
if b21=true then
(AB a0 (Dv.int 1)).bind fun d22 =>
(AB d8 (Dv.int 0)).bind fun d23 =>
(AB a0 (Dv.int 3)).bind fun d24 =>
(AB d8 (Dv.int 1)).bind fun d25 =>
(AB d8 (Dv.int 2)).bind fun d26 =>
some (Dv.tup [d9,d22,d23,d24,d25,d26])
else
(AB d8 (Dv.int 0)).bind fun d27 =>
(Ey d8 (some 1) none).bind fun d28 =>
(Bl d28).bind fun d29 =>
some (Dv.tup [d9,d27,d29]))
theorem bQ (n:Nat):Ex md (("_law_put", AS (AC (top 19)) [] 0 false (GV (CH n)))::bD) (top 19) [] 0=true:=by kernel_rfl
theorem bL (n:Nat):Ha md (("_law_put", AS (AC (top 19)) [] 0 false (GV (CH n)))::bD) (top 19) [] 0 (GV (CH (n+1))):=iZ (by kernel_rfl) fun _ _ _=>(by kernel_rfl)
def OM:Dv->Dv->Dv->Option (Dv):=(Classical.choice (⟨⟨CH 40,rfl⟩⟩:Nonempty {f:Dv->Dv->Dv->Option (Dv) // f=CH 40})).1
theorem LA:OM=CH 40:=(Classical.choice (⟨⟨CH 40,rfl⟩⟩:Nonempty {f:Dv->Dv->Dv->Option (Dv) // f=CH 40})).2
def TH:List (Str×Sig):=("_law_put", AS (AC (top 19)) [] 0 false (GV OM))::bD
noncomputable def Ea (a0 a1:Dv):Option (Dv):=
(Ac a0).bind fun d0 =>
(Ac a1).bind fun d1 =>
(Iv d0 d1).bind fun d2 =>
Xb d2 fun i3 =>
(Ey a0 none (some i3)).bind fun d4 =>
Xb d2 fun i5 =>
(Ey a1 none (some i5)).bind fun d6 =>
(Qo d4 d6).bind fun b7 =>
some (Dv.bl b7)
theorem Tw:Ex md TH (top 20) [] 1=true:=by kernel_rfl
theorem Tj:Ha md TH (top 20) [] 1 (two Ea):=Yd (by kernel_rfl) fun _ _=>(by kernel_rfl)
def bC:List (Str×Sig):=("_law_apart", AS (AC (top 20)) [] 1 true (two Ea))::TH
noncomputable def Ct (a0:Dv) (a2:Dv) (a3:Dv) (c0:Dv):Option (Bool):=
(OM a0 a2 a3).bind fun c1 =>
(Qo c0 c1).bind fun b2 =>
if b2=true then
some true
else
(EY c0 a2).bind fun c3 =>
(Qo c3 a3).bind fun b4 =>
some b4
noncomputable def Cz (x7:Dv):Option Dv:=
(Xi [11,12] x7).bind fun (t8:Dv×Dv) =>
some t8.1
noncomputable def Cw (a2:Dv) (y9:List Dv):Option (Dv):=
Option.or (HZ "list" (Dv.lst y9) (
(Fj (Dv.lst y9) a2).bind fun d10 =>
some d10)) (HZ "tuple" (Dv.lst y9) (
(GR (Dv.lst y9) a2).bind fun d11 =>
some d11))
noncomputable def Cy (x20:Dv):Option Dv:=
(Xi [11,12] x20).bind fun (t21:Dv×Dv) =>
some t21.2
noncomputable def Cs (a3:Dv) (c0:Dv) (t12:Dv) (y22:List Dv):Option (Bool):=
(CY c0).bind fun c23 =>
(Qo c23 (Dv.lst y22)).bind fun b24 =>
if b24=true then
some true
else
Xb t12 fun i25 =>
(CY a3).bind fun c26 =>
(Ac c26).bind fun d27 =>
(Am t12 d27).bind fun d28 =>
Xb d28 fun i29 =>
(Ey (Dv.lst y22) (some i25) (some i29)).bind fun d30 =>
(CY a3).bind fun c31 =>
(Qo d30 c31).bind fun b32 =>
some b32
noncomputable def Cv (a0:Dv) (a2:Dv) (c0:Dv) (d14:Dv):Option (Dv):=
(Aw c0 a2 d14).bind fun c42 =>
(Cg c42 a0).bind fun b43 =>
cV (Dv.bl b43) fun b44 =>
if b44=true then
(Dj c0).bind fun c45 =>
(Dj c0).bind fun c46 =>
(Dx c46).bind fun d47 =>
(Cg c45 d47).bind fun b48 =>
some (Dv.bl b48)
else
some (Dv.bl false)
noncomputable def CJ (a0 a1 a2 a3:Dv):Option (Dv):=
(Aw a0 a2 a3).bind fun c0 =>
((Ct a0 a2 a3 c0)).bind fun t5 =>
if t5=true then
some (Dv.bl false)
else
(items a1).bind fun s6 =>
Ln s6 ((EC Cz s6).bind fun y9 =>
((Cw a2 y9)).bind fun t12 =>
(AB a1 t12).bind fun d13 =>
(AB d13 (Dv.int 1)).bind fun d14 =>
(CY d14).bind fun c15 =>
(Ac c15).bind fun d16 =>
(Am t12 d16).bind fun d17 =>
(FN c0).bind fun c18 =>
(items c18).bind fun s19 =>
Ln s19 ((EC Cy s19).bind fun y22 =>
((Cs a3 c0 t12 y22)).bind fun t33 =>
if t33=true then
some (Dv.bl false)
else
(Ac (Dv.lst y22)).bind fun d34 =>
(Ap d34 t12).bind fun d35 =>
(CY a3).bind fun c36 =>
(Ac c36).bind fun d37 =>
(Ap d35 d37).bind fun d38 =>
(Ac a1).bind fun d39 =>
(Ap d39 d17).bind fun d40 =>
(Qo d38 d40).bind fun b41 =>
if b41=true then
some (Dv.bl false)
else
((Cv a0 a2 c0 d14)).bind fun t49 =>
some t49))
theorem LU:Ex md bC (top 21) [] 0=true:=by kernel_rfl
theorem LI:Ha md bC (top 21) [] 0 (El CJ):=iY (by kernel_rfl) fun _ _ _ _=>(by kernel_rfl)
def bB:List (Str×Sig):=("_law_one_right", AS (AC (top 21)) [] 0 true (El CJ))::bC
noncomputable def FG (c4_1:Dv):Option (Dv):=
(CY c4_1).bind fun c5 =>
(Ac c5).bind fun d6 =>
(XY d6 (Dv.int 20)).bind fun b7 =>
if b7=true then
some (Dv.tup [(Dv.str [110,97,109,101]),(Dv.str [111,116,104,101,114])])
else
some c4_1
noncomputable def FL (c0:Dv) (x2:Dv) (t3:Dv×Dv):Option (Dv×Dv):=
(FO t3.1).bind fun c4 =>
((FG c4.1)).bind fun t8 =>
HZ "list" t3.2 (
(Ac c0).bind fun d9 =>
(AJ c4.2 d9).bind fun c10 =>
(AB c0 c10.1).bind fun d11 =>
(AB d11 (Dv.int 0)).bind fun d12 =>
(BB t3.2 [(Dv.tup [d12,t8])]).bind fun r13 =>
some (c10.2,r13.2))
noncomputable def FJ (a1:Dv) (c0:Dv) (x16:Dv):Option Dv:=
(Xi [6,5] x16).bind fun (t17:Dv×Dv) =>
(CJ a1 c0 t17.1 t17.2).bind fun c18 =>
bif nol c18 then
some c18
else none
noncomputable def FK (a1:Dv) (t14_2:Dv) (x24:Dv) (t25:Unit):Option (Lp Dv (Unit) (Unit)):=
(Xi [6,5] x24).bind fun (t26:Dv×Dv) =>
(AB t14_2 (Dv.int 0)).bind fun d27 =>
(AB d27 (Dv.int 0)).bind fun d28 =>
(Ea d28 t26.1).bind fun c29 =>
bif nol c29 then
(Hr c29).bind fun b30 =>
if b30=true then
(Aw a1 t26.1 t26.2).bind fun c31 =>
(AB t14_2 (Dv.int 0)).bind fun d32 =>
(AB d32 (Dv.int 0)).bind fun d33 =>
(AB t14_2 (Dv.int 0)).bind fun d34 =>
(AB d34 (Dv.int 1)).bind fun d35 =>
(Aw c31 d33 d35).bind fun c36 =>
(AB t14_2 (Dv.int 0)).bind fun d37 =>
(AB d37 (Dv.int 0)).bind fun d38 =>
(AB t14_2 (Dv.int 0)).bind fun d39 =>
(AB d39 (Dv.int 1)).bind fun d40 =>
(Aw a1 d38 d40).bind fun c41 =>
(Aw c41 t26.1 t26.2).bind fun c42 =>
(Qo c36 c42).bind fun b43 =>
if b43=true then
some (.rt (Dv.bl false) ())
else
some (.go ())
else
some (.go ())
else none
noncomputable def EZ (a0 a1:Dv):Option (Dv×Dv):=
(FN a1).bind fun c0 =>
(DJ [(Dv.int 5)]).bind fun s1 =>
(Br (FL c0) s1 (a0,(Dv.lst []))).bind fun t14 =>
(items t14.2).bind fun s15 =>
Ln s15 ((EC (FJ a1 c0) s15).bind fun y19 =>
(Qr (Dv.lst y19)).bind fun d20 =>
(Hr d20).bind fun b21 =>
if (!b21)=true then
some ((Dv.bl false),t14.1)
else
(Ey t14.2 (some 1) none).bind fun d22 =>
(items d22).bind fun s23 =>
(GG (FK a1 t14.2) s23 ()).bind fun l47=>l47.el (fun (t44:Unit) =>
some ((Dv.bl true),t14.1)) fun (e45:Dv) (r46:Unit) =>
some (e45,t14.1))
theorem Tu:Ex md bB (top 22) [0] 1=true:=by kernel_rfl
theorem Th:Ha md bB (top 22) [0] 1 (two EZ):=Yd (by kernel_rfl) fun _ _=>(by kernel_rfl)
def fL:List (Str×Sig):=("_law_right", AS (AC (top 22)) [0] 1 true (two EZ))::bB
noncomputable def ME (a0:Dv) (x4:Dv) (t5:Unit):Option (Lp Dv (Unit) (Unit)):=
(Gj a0 x4).bind fun c6 =>
(FO c6).bind fun c7 =>
(EZ c7.2 c7.1).bind fun c8 =>
(Hr c8.1).bind fun b9 =>
if (!b9)=true then
some (.rt (Dv.bl false) ())
else
some (.go ())
noncomputable def VX (a0:Dv):Option (Dv):=
(Ey a0 none (some 2)).bind fun d0 =>
(Ac d0).bind fun d1 =>
(Ll (Dv.int 1) d1).bind fun d2 =>
(DJ [d2]).bind fun s3 =>
(GG (ME a0) s3 ()).bind fun l13=>l13.el (fun (t10:Unit) =>
some (Dv.bl true)) fun (e11:Dv) (r12:Unit) =>
some e11
theorem fg:Ex md fL (top 23) [] 1=true:=by kernel_rfl
theorem fY:Ha md fL (top 23) [] 1 (one VX):=Ye (by kernel_rfl) fun _=>(by kernel_rfl)
end My
set_option maxHeartbeats 1000000
namespace R
open PySem L2
def Fd (x:Dv):Prop:=∃ a b:Int,x=.lst [.int a,.int b]
def Tx (N:Nat) (x:Dv):Prop:=∃ l,x=.str l/\l.length<=N/\∀ c∈l,c < 128
theorem Tx.mono {N M:Nat} {x:Dv} (h:Tx N x) (le:N<=M):Tx M x:=let ⟨l,e,h1,h2⟩:=h;⟨l,e,kM h1 le,h2⟩
section
variable {γ τ ρ:Type}
theorem Fc (g:Dv->γ->Option (Dv×γ)) (P:γ->Prop) (R:Dv->Prop):∀ (xs:List Dv) (c:γ),P c->(∀ x∈xs,∀ c,P c->∃ d c',g x c=some (d,c')/\R d/\P c')->∃ ds c',Et g xs c=some (ds,c')/\ds.length=xs.length/\(∀ d∈ds,R d)/\P c'
 | [],c,hc,_=>⟨[],c,rfl,rfl,fun _ z=>(lV z).elim,hc⟩
 | x::xs,c,hc,h=>by
  obtain ⟨d,c1,e1,r1,p1⟩:=h x kA c hc;obtain ⟨ds,c2,e2,l2,r2,p2⟩:=Fc g P R xs c1 p1 fun y hy=>h y (kB _ hy)
  refine ⟨d::ds,c2,by simp only [Et,e1,e2,dL],by rw [kG,kG,l2],fun y hy=>?_,p2⟩;rcases kZ.mp hy with rfl | hy
  ·exact r1
  ·exact r2 y hy
theorem DY (g:Dv->γ->Option γ) (I:Nat->γ->Prop):∀ (xs:List Dv) (k:Nat) (c:γ),I k c->(∀ i x,xs[i]?=some x->∀ c,I (k+i) c->∃ c',g x c=some c'/\I (k+i+1) c')->∃ c',Br g xs c=some c'/\I (k+xs.length) c'
 | [],k,c,hc,_=>⟨c,rfl,hc⟩
 | x::xs,k,c,hc,h=>by
  obtain ⟨c1,e1,i1⟩:=h 0 x rfl c hc;obtain ⟨c2,e2,i2⟩:=DY g I xs (k+1) c1 i1 fun i y hy c hc=>by
   have:=h (i+1) y hy c (by rw [show k+(i+1)=k+1+i by omega];exact hc);rw [show k+(i+1)+1=k+1+i+1 by omega] at this;exact this
  exact ⟨c2,by simp only [Br,e1,e2,dL],by rw [kG,show k+(xs.length+1)=k+1+xs.length by omega];exact i2⟩
theorem Co (g:Dv->Option Dv) (f:Dv->Dv):∀ (xs:List Dv),(∀ x∈xs,g x=some (f x))->EC g xs=some (xs.map f)
 | [],_=>rfl
 | x::xs,h=>by simp only [EC,h x kA,Co g f xs fun y hy=>h y (kB _ hy),dL,jz]
theorem JZ (g:Dv->γ->Option (Lp τ γ ρ)) (c:γ):∀ (xs:List Dv),(∀ x∈xs,g x c=some (.go c))->GG g xs c=some (.go c)
 | [],_=>rfl
 | x::xs,h=>by simp only [GG,h x kA,dL];exact JZ g c xs fun y hy=>h y (kB _ hy)
theorem DZ {α:Type} {xs:List Dv} {o:Option α} (h:xs.length<=1000000):Ln xs o=o:=by unfold Ln;rw [if_pos h]
end
theorem atI_nat {α:Type} (xs:List α) (i:Nat) (h:i < xs.length):ED xs (i:Int)=some xs[i]:=by
 unfold ED Me;rw [if_pos (by omega),if_pos (by omega)];simp [h]
theorem Jl {α:Type} {xs:List α} {i:Int} (h0:0<=i) (h:i < xs.length):∃ x∈xs,ED xs i=some x:=by
 obtain ⟨n,rfl⟩:∃ n:Nat,i=n:=⟨i.toNat,by omega⟩;exact ⟨xs[n]'(by omega),mM _,atI_nat xs n (by omega)⟩
theorem Yi {xs:List Dv} {i:Int} (h0:0<=i) (h:i < xs.length):∃ x∈xs,AB (.lst xs) (.int i)=some x:=Jl h0 h
theorem Yh {l:List Nat} {i:Int} (h0:0<=i) (h:i < l.length) (hl:l.length<=1000000):∃ c∈l,AB (.str l) (.int i)=some (.str [c]):=by
 obtain ⟨c,hc,e⟩:=Jl h0 h;exact ⟨c,hc,by simp only [AB,if_pos hl,e,kn]⟩
theorem Eb {n:Int} (h0:-1000000000<=n) (h:n<=1000000000):DJ [.int n]=some ((List.range n.toNat).map fun k=>.int (k:Nat)):=by
 have:small n=true:=by unfold small;simp [h0,h]
 simp only [DJ,this,cond_true,Int.zero_add]
theorem ZX (n:Nat) (h:n<=1000000):DJ [.int (n:Nat)]=some ((List.range n).map fun k=>.int (k:Nat)):=by
 have:=Eb (n:=(n:Int)) (by omega) (by omega);simpa using this
theorem Hj {α:Type} (xs:List Dv) (o:Option α):HZ "list" (.lst xs) o=o:=rfl
theorem fE {α:Type} (l:List Nat) (o:Option α):HZ "str" (.str l) o=o:=rfl
theorem ia {R:Type} (b:Bool) (k:Bool->Option R):cV (.bl b) k=k b:=rfl
theorem cH {R:Type} (i:Int) (k:Int->Option R):Xb (.int i) k=k i:=rfl
theorem Yw (b:Bool):Hr (.bl b)=some b:=rfl
theorem ez (b:Bool):nol (.bl b)=true:=rfl
theorem VA {β:Type} {i j:Nat} (x y:Dv) (f:Dv×Dv->Option β):((Xi [i,j] (.tup [x,y])).bind fun (t:Dv×Dv)=>f t)=f (x,y):=rfl
theorem HU {xs:List Dv} {y:Dv} (h:xs.length<=1000000):BB (.lst xs) [y]=some (.non,.lst (xs++[y])):=by simp only [BB,if_pos h]
theorem fP {xs ys:List Dv} (h:xs.length+ys.length<=1000000):Dy (.lst xs) [.lst ys]=some (.non,.lst (xs++ys)):=by simp only [Dy,if_pos h]
theorem OZ {α:Type} {xs:List α} {lo hi:Option Int} {x:α} (h:x∈cutA xs lo hi):x∈xs:=List.mem_of_mem_drop (List.mem_of_mem_take h)
theorem Oa {α:Type} (xs:List α) (lo hi:Option Int):(cutA xs lo hi).length<=xs.length:=by
 unfold cutA;rw [lL,mL];omega
theorem Je (l:List Nat) (lo hi:Option Int):QV l lo hi=cutA l lo hi:=rfl
theorem EJ:∀ ls:List (List Nat),AN (ls.map Dv.str)=true
 | []=>rfl
 | x::xs=>by simp only [jz,AN,Dv.cmp,EJ xs,ku]
theorem EI:∀ ls:List (List Nat),AX (ls.map Dv.str)=0
 | []=>rfl
 | x::xs=>by simp only [jz,AX,Dv.dep,EI xs];rfl
theorem FW (x:List Nat):∀ ls:List (List Nat),Ku (.str x) (ls.map Dv.str)=ls.contains x
 | []=>rfl
 | y::ys=>by
  have:=FW x ys;simp only [Ku] at this;simp only [Ku,jz,lS,this,List.contains_cons,eqV]
  by_cases e:y=x
  ·subst e;simp
  ·have e2:¬ x=y:=fun z=>e z.symm
   have h1:(y == x)=false:=by simpa using e
   have h2:(x == y)=false:=by simpa using e2
   rw [h1,h2]
theorem gH (neg:Bool) (x:List Nat) (ls:List (List Nat)):NO neg (.str x) (.lst (ls.map Dv.str))=some (if neg=true then !ls.contains x else ls.contains x):=by
 simp only [NO,gh,Dv.cmp,EJ,EI,ku,kg,decide_true,if_true,FW]
theorem Qp (neg:Bool) (x:List Nat) (ls:List (List Nat)):NO neg (.str x) (.tup (ls.map Dv.str))=some (if neg=true then !ls.contains x else ls.contains x):=by
 simp only [NO,gh,Dv.cmp,EJ,EI,ku,kg,decide_true,if_true,FW]
theorem Bt (i j:Int):Am (.int i) (.int j)=some (.int (i+j)):=rfl
theorem HW (i j:Int) (h:0 < j):DL (.int i) (.int j)=some (.int (i % j)):=by simp only [DL,BQ,h,decide_true,if_true]
theorem Bp (i j:Int):Cg (.int i) (.int j)=some (decide (i=j)):=by
 simp only [Jk,Dv.cmp,Dv.dep,ku,kg,decide_true,if_true,eqV,jr,if_false];congr 1
theorem XX (i j:Int):Qo (.int i) (.int j)=some (!decide (i=j)):=by
 simp only [Jk,Dv.cmp,Dv.dep,ku,kg,decide_true,if_true,eqV];congr 1
theorem Tx.cut {N:Nat} {x:Dv} (h:Tx N x) (hN:N<=1000000) (lo hi:Option Int):∃ y,Ey x lo hi=some y/\Tx N y:=by
 obtain ⟨l,rfl,h1,h2⟩:=h;exact ⟨.str (QV l lo hi),by simp only [Ey,if_pos (kM h1 hN)],_,rfl,by rw [Je];exact kM (Oa _ _ _) h1,fun c hc=>h2 c (OZ (by rw [<- Je];exact hc))⟩
theorem Tx.add {N M:Nat} {x y:Dv} (h:Tx N x) (h':Tx M y) (hN:N+M<=1000000):∃ z,Am x y=some z/\Tx (N+M) z:=by
 obtain ⟨l,rfl,h1,h2⟩:=h;obtain ⟨l',rfl,h1',h2'⟩:=h';refine ⟨.str (l++l'),by simp only [Am,if_pos (show l.length+l'.length<=1000000 by omega)],_,rfl,by rw [kT];omega,fun c hc=>?_⟩;rcases kU.mp hc with hc | hc
 ·exact h2 c hc
 ·exact h2' c hc
theorem Yq {c:Nat} (h:c < 128):PyProof.Rows.up1 c < 128:=by
 unfold PyProof.Rows.up1;split<;>omega
theorem Tx.upper {N:Nat} {x:Dv} (h:Tx N x) (hN:N<=1000000):∃ y,Fi x=some y/\Tx N y:=by
 obtain ⟨l,rfl,h1,h2⟩:=h;have e:(l.all (fun c=>decide (c < 128)) && decide (l.length<=1000000))=true:=by
  rw [jh];exact ⟨ka.mpr fun c hc=>decide_eq_true (h2 c hc),decide_eq_true (kM h1 hN)⟩
 refine ⟨.str (l.map PyProof.Rows.up1),by simp only [Fi,e,if_true],_,rfl,by rw [jv];exact h1,fun c hc=>?_⟩;obtain ⟨d,hd,rfl⟩:=lY.mp hc;exact Yq (h2 d hd)
theorem Hy:∀ ls:List (List Nat),Hz (ls.map Dv.str)=some ls
 | []=>rfl
 | x::xs=>by simp only [jz,Hz,Hy xs,kn]
theorem Mc:∀ {xs:List Dv},(∀ x∈xs,∃ c,x=.str [c]/\c < 128)->xs.length<=1000->∃ z,HX (.str []) (.lst xs)=some z/\Tx xs.length z:=by
 intro xs h hl;have:∃ cs:List Nat,xs=(cs.map fun c=>[c]).map Dv.str/\∀ c∈cs,c < 128:=by
  clear hl
  induction xs with
  | nil=>exact ⟨[],rfl,fun _ z=>by cases z⟩
  | cons x xs ih =>
   obtain ⟨cs,e,h2⟩:=ih fun y hy=>h y (kB _ hy)
   obtain ⟨c,rfl,hc⟩:=h x kA;refine ⟨c::cs,by rw [e];rfl,fun d hd=>?_⟩;rcases kZ.mp hd with rfl | hd
   ·exact hc
   ·exact h2 d hd
 obtain ⟨cs,e,h2⟩:=this;have hlen:xs.length=cs.length:=by rw [e];simp
 have hj:∀ cs:List Nat,jn [] (cs.map fun c=>[c])=cs:=by
  intro cs;cases cs with
  | nil=>rfl
  | cons a b =>
   show [a]++((b.map fun c=>[c]).flatMap fun y=>[]++y)=a::b;have:∀ b:List Nat,((b.map fun c=>[c]).flatMap fun y=>[]++y)=b:=by
    intro b
    induction b with
    | nil=>rfl
    | cons x y ih=>simp only [jz,mI,ih];rfl
   rw [this];rfl
 have hs:((cs.map fun c=>[c]).map List.length).sum=cs.length:=by
  clear e h2 hlen
  induction cs with
  | nil=>rfl
  | cons a b ih=>rw [jz,jz,List.sum_cons,ih];simp;omega
 rw [e];refine ⟨.str cs,?_,cs,rfl,by simp,h2⟩;simp only [HX,Hy,hj];rw [if_pos (by rw [hs];simp;omega)]
end R
set_option maxHeartbeats 1000000
namespace My
open PySem L2 R
theorem AE {f:Dv} (hf:Fd f) {n:Int} (h0:0 < n) (h1:n < 1073741824):∃ (r:Nat) (f':Dv),AJ f (.int n)=some (.int r,f')/\(r:Int) < n/\Fd f':=by
 obtain ⟨a,b,rfl⟩:=hf;have i0:∀ x y:Dv,AB (.lst [x,y]) (.int 0)=some x:=fun _ _=>rfl
 have i1:∀ x y:Dv,AB (.lst [x,y]) (.int 1)=some y:=fun _ _=>rfl
 have s0:∀ x y d:Dv,Bm (.lst [x,y]) (.int 0) d=some (.lst [d,y]):=fun _ _ _=>rfl
 have s1:∀ x y d:Dv,Bm (.lst [x,y]) (.int 1) d=some (.lst [x,d]):=fun _ _ _=>rfl
 have m:∀ x:Int,∃ r:Nat,x % n=r/\(r:Int) < n:=fun x=>⟨(x % n).toNat,by have:=mS x (show n≠0 by omega);omega,by have:=mS x (show n≠0 by omega);have:=me x h0;omega⟩
 have big1:big 48271=true:=by decide
 have big2:big 40692=true:=by decide
 have big3:big 2147483647=true:=by decide
 unfold AJ;simp only [i0,dL,Bw,Hq]
 by_cases h:0 < a
 ·obtain ⟨r,e,hr⟩:=m a;refine ⟨r,.lst [.int (a / n),.int b],?_,hr,a / n,b,rfl⟩;simp only [h,decide_true,if_true,DL,EE,BQ,h0,h1,ku,dL,i0,s0,e]
 ·simp only [h,decide_false,jr,if_false,i1,s1,DH,big1,big2,big3,Bool.or_true,if_true,dL,DL,EE,BQ,Am,h0,decide_true,show (0:Int) < 2147483647 by decide,show (0:Int) < 2147483399 by decide,show (0:Int) < 8191 by decide,show (8191:Int) < 1073741824 by decide,ku];obtain ⟨r,e,hr⟩:=m (((b * 48271 % 2147483647) * 2147483647+((b * 48271 % 2147483647 * 40692+30103) % 2147483399+1)) / 8191);exact ⟨r,_,by rw [e],hr,_,_,rfl⟩
theorem QN {ns:List Int} {k:Nat}:∃ f,Gj (.scr ns) (.int k)=some f/\Fd f:=by
 have b1:big 7907=true:=by decide
 have b2:big 2147483629=true:=by decide
 have b3:big 31=true:=by decide
 have b4:big 48271=true:=by decide
 have b5:big 40692=true:=by decide
 have c1:∃ c:Int,Gh (.scr ns) (.int k) (.int (7907 * k+13579))=some (.int c):=by
  unfold Gh KM;simp only [Ac,dL,Bw,Hq]
  by_cases h:(k:Int) < ns.length
  ·simp only [h,decide_true,if_true,AB,atI_nat ns k (by omega),kn,dL];exact ⟨_,rfl⟩
  ·simp only [h,decide_false,jr,if_false]
   by_cases h2:0 < (ns.length:Int)
   ·have e:=mS (k:Int) (show (ns.length:Int)≠0 by omega);have e':=me (k:Int) h2;obtain ⟨x,_,ex⟩:=Jl e e';simp only [h2,decide_true,if_true,DL,BQ,dL,AB,ex,kn,DH,b1,b3,mi,Bool.or_true,Am,show (0:Int) < 2147483629 by decide];exact ⟨_,rfl⟩
   ·simp only [h2,decide_false,jr,if_false];exact ⟨_,rfl⟩
 obtain ⟨c,e⟩:=c1;have c2:∃ d:Int,Gg (.int c)=some (.int d):=by
  unfold Gg;simp only [cK,BQ,show (decide ((0:Int)<=18) && decide ((18:Int)<=1000000) && decide ((10:Int).natAbs < 2 ^ 64))=true by decide,if_true,dL,Bw,Hq];split<;>exact ⟨_,rfl⟩
 obtain ⟨d,e2⟩:=c2;unfold Gj;simp only [DH,b1,b4,b5,mi,Bool.or_true,if_true,dL,Am,e,e2,DL,BQ,show (0:Int) < 2147483629 by decide,show (0:Int) < 2147483646 by decide,decide_true];exact ⟨_,rfl,_,_,rfl⟩
noncomputable abbrev ic:List Nat:=[97,98,99,100,101,102,103,104,105,106,107,108,109,110,111,112,113,114,115,116,117,118,119,120,121,122]
theorem cJ:∀ c∈ic,c < 128:=by decide
theorem Sm {i:Int} (h0:0<=i) (h:i < 26):∃ c,AB (.str ic) (.int i)=some (.str [c])/\c < 128:=by
 obtain ⟨c,hc,e⟩:=Yh (l:=ic) h0 (show i < ((26:Nat):Int) by omega) (by decide);exact ⟨c,e,cJ c hc⟩
theorem JG {c:Nat} (h:c < 128):Tx 1 (.str [c]):=⟨[c],rfl,by simp,fun d hd=>by rw [kY] at hd;subst hd;exact h⟩
theorem PJ {f:Dv} (hf:Fd f) (xs:List Dv) (hl:xs.length<=1000):∃ z f',(∃ ds,Et Dh xs f=some (ds,f')/\HX (.str []) (.lst ds)=some z)/\Tx xs.length z/\Fd f':=by
 obtain ⟨ds,f',e,hl2,hd,hf'⟩:=Fc Dh Fd (fun d=>∃ c,d=.str [c]/\c < 128) xs f hf fun x _ c hc=>by
  obtain ⟨r,f',e,hr,hf'⟩:=AE hc (n:=26) (by decide) (by decide);obtain ⟨c,e2,hc⟩:=Sm (i:=r) (by omega) hr;exact ⟨.str [c],f',by unfold Dh;simp only [e,e2,dL],⟨c,rfl,hc⟩,hf'⟩
 obtain ⟨z,e2,hz⟩:=Mc hd (by omega);exact ⟨z,f',⟨ds,e,e2⟩,by rw [hl2] at hz;exact hz,hf'⟩
theorem iP {α:Type} (xs:List α) (r:Nat):(cutA xs none (some (r:Int))).length<=r:=by
 unfold cutA;rw [lL];unfold HT.sIx;simp only [];split<;>omega
theorem iO {α:Type} (xs:List α) (r:Nat) (h:Option Int):(cutA xs (some (r:Int)) h).length<=xs.length - r:=by
 unfold cutA;rw [lL,mL];have:HT.sIx xs.length 0 (some (r:Int))=min r xs.length:=by unfold HT.sIx;simp only [];split<;>omega
 omega
theorem iw {N:Nat} {l:List Nat} (hN:l.length<=1000000) (h:∀ c∈l,c < 128) {lo hi:Option Int} (hl:(cutA l lo hi).length<=N):∃ y,Ey (.str l) lo hi=some y/\Tx N y:=
 ⟨.str (QV l lo hi),by simp only [Ey,if_pos hN],_,rfl,by rw [Je];exact hl,fun c hc=>h c (OZ (by rw [<- Je];exact hc))⟩
theorem MY {x:Dv} (h:Tx 4 x):∃ y,FI x=some y/\Tx 5 y:=by
 obtain ⟨l,rfl,h1,h2⟩:=id h;unfold FI;have e:=Qp false l [[100,101,102],[108,101,116],[116,101,108,108],[108,111,111,112],[112,105,99,107],[99,97,108,108]];simp only [jz,lZ,jr,if_false] at e;simp only [e,dL];split
 ·obtain ⟨z,e1,hz⟩:=h.add (JG (c:=113) (by decide)) (by decide);exact ⟨z,by rw [e1];rfl,hz⟩
 ·exact ⟨_,rfl,h.mono (by decide)⟩
theorem MX {f:Dv} (hf:Fd f) {n:Nat} (h2:2<=n) (hn:n<=1000):∃ ns f',Dk f (.int n)=some (.lst ns,f')/\ns.length=n/\(∀ x∈ns,Tx 5 x)/\Fd f':=by
 obtain ⟨r1,f1,e1,b1,hf1⟩:=AE hf (n:=4) (by decide) (by decide);have er:DJ [.int r1]=some ((List.range (r1:Int).toNat).map fun k=>.int (k:Nat)):=Eb (by omega) (by omega);obtain ⟨z,f2,⟨ds,e3,e4⟩,hz,hf2⟩:=PJ hf1 ((List.range (r1:Int).toNat).map fun k=>.int (k:Nat)) (by simp;omega);have hz:Tx 3 z:=hz.mono (by simp;omega);obtain ⟨zl,rfl,hz1,hz2⟩:=hz;obtain ⟨r7,f7,e7,b7,hf7⟩:=AE hf2 (n:=26) (by decide) (by decide);have el:Ac (.str zl)=some (.int zl.length):=by simp only [Ac,if_pos (show zl.length<=1000000 by omega)]
 obtain ⟨r10,f10,e10,b10,hf10⟩:=AE hf7 (n:=(zl.length:Int)+1) (by omega) (by omega);obtain ⟨r11,f11,e11,b11,hf11⟩:=AE hf10 (n:=4) (by decide) (by decide);have en:DJ [.int n]=some ((List.range (n:Int).toNat).map fun k=>.int (k:Nat)):=Eb (by omega) (by omega);obtain ⟨c,e12,ns,rfl,hl,hns⟩:=DY (FM (.str zl) (.int r7) (.int r10) (.int r11)) (fun i c=>∃ ns,c=.lst ns/\ns.length=i/\∀ x∈ns,Tx 5 x) ((List.range (n:Int).toNat).map fun k=>.int (k:Nat)) 0 (.lst []) ⟨[],rfl,rfl,fun _ z=>(lV z).elim⟩ fun i x hx c hc=>by
  obtain ⟨ns,rfl,hl,hns⟩:=hc;rw [kN] at hx;have hi:i < n:=by
   rcases Nat.lt_or_ge i n with h | h
   ·exact h
   ·rw [lG (by simp;omega)] at hx;cases hx
  rw [jl (by simp;omega)] at hx;simp only [kn,Option.some.injEq,List.getElem_range] at hx;subst hx;obtain ⟨c,ec,hc⟩:=Sm (i:=((r7:Int)+7 * (i:Nat)) % 26) (mS _ (by decide)) (me _ (by decide));obtain ⟨y1,ey1,hy1⟩:=iw (by omega) hz2 (iP zl r10);obtain ⟨y2,ey2,hy2⟩:=hy1.add (JG hc) (by omega);obtain ⟨y3,ey3,hy3⟩:=iw (by omega) hz2 (iO zl r10 (some (((r11:Int)+(i:Nat)) % 4)));obtain ⟨y4,ey4,hy4⟩:=hy2.add hy3 (by omega);obtain ⟨y5,ey5,hy5⟩:=MY (hy4.mono (by omega));refine ⟨.lst (ns++[y5]),?_,ns++[y5],rfl,by rw [kT,hl];rfl,fun x hx=>?_⟩
  ·have b7:big 7=true:=by decide
   unfold FM;simp only [DH,b7,mi,if_true,dL,Bt,HW _ _ (show (0:Int) < 26 by decide),HW _ _ (show (0:Int) < 4 by decide),ec,cH,ey1,ey3];rw [ey2];simp only [dL];rw [ey4];simp only [dL,ey5,Hj,HU (show ns.length<=1000000 by omega)]
  ·rcases kU.mp hx with hx | hx
   ·exact hns x hx
   ·rw [kY] at hx;subst hx;exact hy5
 have hl:ns.length=n:=by rw [hl];simp
 have last:∃ ms f',FH (.int n) f11 (.lst ns)=some (f',.lst ms)/\ms.length=n/\(∀ x∈ms,Tx 5 x)/\Fd f':=by
  have m2:∃ x∈ns,AB (.lst ns) (.int (-2))=some x:=by
   refine ⟨ns[n - 2]'(by omega),mM _,?_⟩;simp only [AB,ED,Me];rw [if_neg (by omega),if_pos (by omega)];simp only [dL];rw [show (-2+(ns.length:Int)).toNat=n - 2 by omega];exact jl (by omega)
  obtain ⟨x,hx,ex⟩:=m2;obtain ⟨l,rfl,hl1,hl2⟩:=id (hns x hx);have t1:∃ (b:Bool) (f':Dv),FF (.int n) f11 (.lst ns)=some (b,f')/\(b=true->l.length<=3)/\Fd f':=by
   unfold FF IE;simp only [Bw,Hq,show (1:Int) < n by omega,decide_true,if_true,dL,HV,ex,Ac,if_pos (show l.length<=1000000 by omega)];split
   ·rename_i hlt;obtain ⟨r,f',e,_,h⟩:=AE hf11 (n:=4) (by decide) (by decide);simp only [e,dL,Bp];exact ⟨_,_,rfl,fun _=>by have:=of_decide_eq_true hlt;omega,h⟩
   ·exact ⟨_,_,rfl,(fun z=>by cases z),hf11⟩
  obtain ⟨b,f',et,hb3,hf'⟩:=t1;unfold FH;simp only [et,dL];cases b
  ·exact ⟨ns,f',by simp,hl,hns,hf'⟩
  ·obtain ⟨y,ey,hy⟩:=Tx.add (N:=3) (M:=1) ⟨l,rfl,hb3 rfl,hl2⟩ (JG (c:=113) (by decide)) (by decide);simp only [if_true,HV,dL,ex,ey,Bm,Me];rw [if_neg (by omega),if_pos (by omega)];refine ⟨_,f',rfl,by rw [kR];exact hl,fun x hx=>?_,hf'⟩;rcases mG hx with hx | rfl
   ·exact hns x hx
   ·exact hy.mono (by decide)
 obtain ⟨ms,f',e13,hl3,hms,hf'⟩:=last;refine ⟨ms,f',?_,hl3,hms,hf'⟩;unfold Dk;simp only [fE,e1,er,dL];rw [DZ (by simp;omega)];simp only [dL,e3,e4,e7,el,Bt,e10,e11,en];rw [e12];simp only [dL,e13]
inductive Hd where
 | leaf (w:List Nat) (x:Dv) | many (c:Bool) (x:Dv) | two (c:Bool) (x:Dv) | loop (x y:Dv) | pick
inductive T where
 | mk (h:Hd) (ts:List T)
def HK (x:Dv):Prop:=x.cmp=true/\x.dep=0
noncomputable abbrev Ij:List Nat:=[100,111]
noncomputable abbrev cCall:List Nat:=[99,97,108,108]
noncomputable abbrev DF:List Nat:=[108,101,116]
noncomputable abbrev Ji:List Nat:=[111,112]
noncomputable abbrev Bb:List Nat:=[108,111,111,112]
noncomputable abbrev Ba:List Nat:=[112,105,99,107]
def Hd.ok:Hd->Nat->Prop
 | .leaf w x,k=>k=0/\(w≠Ij/\w≠cCall/\w≠DF/\w≠Ji/\w≠Bb/\w≠Ba)/\HK x
 | .many _ x,_=>HK x
 | .two _ x,k=>k=2/\HK x
 | .loop x y,k=>k=3/\HK x/\HK y
 | .pick,k=>1<=k
def BR:Hd->List Dv->Dv
 | .leaf w x,_=>.tup [.str w,x]
 | .many c x,ds=>.tup [.str (if c=true then cCall else Ij),x,.tup ds]
 | .two c x,[a,b]=>.tup [.str (if c=true then Ji else DF),x,a,b]
 | .loop x y,[n,a,b]=>.tup [.str Bb,x,n,y,a,b]
 | .pick,n::ds=>.tup [.str Ba,n,.tup ds]
 | _,_=>.non
theorem BA (a b:List Nat):Cg (.str a) (.str b)=some (decide (a=b)):=by
 simp only [Jk,Dv.cmp,Dv.dep,ku,kg,decide_true,if_true,R.eqV,jr,if_false];rw [mU]
theorem Bf (a:Dv) (r:List Dv):AB (.tup (a::r)) (.int 0)=some a:=by
 show ED (a::r) 0=_;exact atI_nat (a::r) 0 (by simp)
theorem QE {ds:List Dv} (h:1<=ds.length):∃ a r,ds=a::r:=by
 cases ds with
 | nil=>simp at h
 | cons a r=>exact ⟨a,r,rfl⟩
theorem QD {ds:List Dv} (h:ds.length=2):∃ a b,ds=[a,b]:=by
 match ds,h with
 | [a,b],_=>exact ⟨a,b,rfl⟩
theorem QC {ds:List Dv} (h:ds.length=3):∃ a b c,ds=[a,b,c]:=by
 match ds,h with
 | [a,b,c],_=>exact ⟨a,b,c,rfl⟩
theorem MS {h:Hd} {ds:List Dv} (ok:h.ok ds.length) (hl:ds.length<=1000):BJ (BR h ds)=some (.lst ds):=by
 unfold BJ Gb Ga;cases h with
 | leaf w x =>
  obtain ⟨h0,⟨h1,h2,h3,h4,h5,h6⟩,_⟩:=ok;obtain rfl:ds=[]:=kl h0;simp only [BR,Bf,dL,BA,h1,h2,h3,h4,h5,h6,decide_false,jr,if_false]
 | many c x=>cases c<;>simp only [BR,Bf,dL,BA,jr,if_true,if_false,decide_true,show ¬ (cCall=Ij) by decide]<;>rfl
 | two c x =>
  obtain ⟨a,b,rfl⟩:=QD ok.1;cases c<;>simp only [BR,Bf,dL,BA,jr,if_true,if_false,decide_true,decide_false,show ¬ (DF=Ij) by decide,show ¬ (DF=cCall) by decide,show ¬ (Ji=Ij) by decide,show ¬ (Ji=cCall) by decide,show ¬ (Ji=DF) by decide]<;>rfl
 | loop x y =>
  obtain ⟨a,b,c,rfl⟩:=QC ok.1;simp only [BR,Bf,dL,BA,jr,if_true,if_false,decide_true,decide_false,show ¬ (Bb=Ij) by decide,show ¬ (Bb=cCall) by decide,show ¬ (Bb=DF) by decide,show ¬ (Bb=Ji) by decide];rfl
 | pick =>
  obtain ⟨a,r,rfl⟩:=QE ok;simp only [BR,Bf,dL,BA,jr,if_true,if_false,decide_true,decide_false,show ¬ (Ba=Ij) by decide,show ¬ (Ba=cCall) by decide,show ¬ (Ba=DF) by decide,show ¬ (Ba=Ji) by decide,show ¬ (Ba=Bb) by decide];show (some a).bind (fun d16=>(some (Dv.tup r)).bind fun d17=>(Ew d17).bind fun d18=>(Am (.lst [d16]) d18).bind fun d19=>some d19)=_;simp only [dL,Ew,Am];rw [if_pos (by simp at hl ⊢;omega)];rfl
theorem KS:Cm=BJ:=rfl
theorem Ou {h:Hd} {ds es:List Dv} (ok:h.ok ds.length) (hl:es.length=ds.length):Bh (BR h ds) (.lst es)=some (BR h es):=by
 unfold Bh EU ET;cases h with
 | leaf w x =>
  obtain ⟨h0,⟨h1,h2,h3,h4,h5,h6⟩,_⟩:=ok;simp only [BR,Bf,dL,BA,h1,h2,h3,h4,h5,h6,decide_false,jr,if_false]
 | many c x=>cases c<;>simp only [BR,Bf,dL,BA,jr,if_true,if_false,decide_true,show ¬ (cCall=Ij) by decide]<;>rfl
 | two c x =>
  obtain ⟨a,b,rfl⟩:=QD ok.1;obtain ⟨a',b',rfl⟩:=QD (hl.trans ok.1);cases c<;>simp only [BR,Bf,dL,BA,jr,if_true,if_false,decide_true,decide_false,show ¬ (DF=Ij) by decide,show ¬ (DF=cCall) by decide,show ¬ (Ji=Ij) by decide,show ¬ (Ji=cCall) by decide,show ¬ (Ji=DF) by decide]<;>rfl
 | loop x y =>
  obtain ⟨a,b,c,rfl⟩:=QC ok.1;obtain ⟨a',b',c',rfl⟩:=QC (hl.trans ok.1);simp only [BR,Bf,dL,BA,jr,if_true,if_false,decide_true,decide_false,show ¬ (Bb=Ij) by decide,show ¬ (Bb=cCall) by decide,show ¬ (Bb=DF) by decide,show ¬ (Bb=Ji) by decide];rfl
 | pick =>
  obtain ⟨a,r,rfl⟩:=QE ok;obtain ⟨a',r',rfl⟩:=QE (ds:=es) (by rw [hl];exact ok);simp only [BR,Bf,dL,BA,jr,if_true,if_false,decide_true,decide_false,show ¬ (Ba=Ij) by decide,show ¬ (Ba=cCall) by decide,show ¬ (Ba=DF) by decide,show ¬ (Ba=Ji) by decide,show ¬ (Ba=Bb) by decide];have e1:AB (.lst (a'::r')) (.int 0)=some a':=atI_nat (a'::r') 0 (by simp);have e2:cutA (a'::r') (some 1) none=r':=by
   unfold cutA HT.sIx;simp
  simp only [e1,dL,Ey,e2,Bl]
mutual
noncomputable def T.enc:T->Dv
 | .mk h ts=>BR h (Ad ts)
noncomputable def Ad:List T->List Dv
 | []=>[]
 | t::ts=>t.enc::Ad ts
end
mutual
noncomputable def T.ok:T->Prop
 | .mk h ts=>h.ok ts.length/\ts.length<=1000/\oks ts
noncomputable def oks:List T->Prop
 | []=>True
 | t::ts=>t.ok/\oks ts
end
mutual
noncomputable def T.sz:T->Nat
 | .mk _ ts=>1+GX ts
noncomputable def GX:List T->Nat
 | []=>0
 | t::ts=>t.sz+GX ts
end
mutual
noncomputable def T.dp:T->Nat
 | .mk _ ts=>1+Fw ts
noncomputable def Fw:List T->Nat
 | []=>0
 | t::ts=>max t.dp (Fw ts)
end
theorem Cq:∀ ts:List T,Ad ts=ts.map T.enc
 | []=>rfl
 | t::ts=>by rw [Ad,Cq ts];rfl
theorem AR (ts:List T):(Ad ts).length=ts.length:=by rw [Cq,jv]
theorem By:∀ {ts:List T},oks ts↔∀ t∈ts,t.ok
 | []=>⟨fun _ _ z=>(lV z).elim,fun _=>trivial⟩
 | t::ts=>by
  rw [oks,By (ts:=ts)];exact ⟨fun h x hx=>(kZ.mp hx).elim (fun e=>e▸h.1) (h.2 x),fun h=>⟨h t kA,fun x hx=>h x (kB _ hx)⟩⟩
theorem EO:∀ {ts:List T} {n:Nat},Fw ts<=n↔∀ t∈ts,t.dp<=n
 | [],n=>⟨fun _ _ z=>(lV z).elim,fun _=>kg _⟩
 | t::ts,n=>by
  rw [Fw,Nat.max_le,EO (ts:=ts)];exact ⟨fun h x hx=>(kZ.mp hx).elim (fun e=>e▸h.1) (h.2 x),fun h=>⟨h t kA,fun x hx=>h x (kB _ hx)⟩⟩
theorem JU {ts:List T} {k:Nat} {t:T} (h:ts[k]?=some t):AB (.lst (Ad ts)) (.int (k:Nat))=some t.enc:=by
 have hk:=(jo.mp h).1;show ED (Ad ts) (k:Nat)=_;rw [atI_nat _ k (by rw [AR];exact hk)];congr 1;have:(Ad ts)[k]?=some t.enc:=by rw [Cq,kN,h];rfl
 exact (jo.mp this).2
theorem pin {h:Hd} {ts:List T} (ok:(T.mk h ts).ok):BJ (T.mk h ts).enc=some (.lst (Ad ts)):=by
 rw [T.ok] at ok;rw [T.enc];exact MS (by rw [AR];exact ok.1) (by rw [AR];exact ok.2.1)
theorem To {h:Hd} {ds:List Dv} {n:Nat} (ok:h.ok ds.length) (hc:AN ds=true) (hd:AX ds<=n):(BR h ds).cmp=true/\(BR h ds).dep<=n+2:=by
 cases h with
 | leaf w x=>obtain ⟨_,_,f1,f2⟩:=ok;simp [BR,Dv.cmp,AN,Dv.dep,AX,f1,f2]
 | many c x =>
  obtain ⟨f1,f2⟩:=ok;simp [BR,Dv.cmp,AN,Dv.dep,AX,f1,f2,hc];omega
 | two c x =>
  obtain ⟨a,b,rfl⟩:=QD ok.1;obtain ⟨_,f1,f2⟩:=ok;simp [AN,AX] at hc hd;simp [BR,Dv.cmp,AN,Dv.dep,AX,f1,f2,hc];omega
 | loop x y =>
  obtain ⟨a,b,c,rfl⟩:=QC ok.1;obtain ⟨_,⟨f1,f2⟩,f3,f4⟩:=ok;simp [AN,AX] at hc hd;simp [BR,Dv.cmp,AN,Dv.dep,AX,f1,f2,f3,f4,hc];omega
 | pick =>
  obtain ⟨a,r,rfl⟩:=QE ok;simp [AN,AX] at hc hd;simp [BR,Dv.cmp,AN,Dv.dep,AX,hc];omega
mutual
theorem Ds:∀ (t:T),t.ok->t.enc.cmp=true/\t.enc.dep<=2 * t.dp
 | .mk h ts,ok=>by
  rw [T.ok] at ok;obtain ⟨h1,h2⟩:=LM ts ok.2.2;rw [T.enc,T.dp];have:=To (h:=h) (n:=2 * Fw ts) (by rw [AR];exact ok.1) h1 h2;exact ⟨this.1,by omega⟩
theorem LM:∀ (ts:List T),oks ts->AN (Ad ts)=true/\AX (Ad ts)<=2 * Fw ts
 | [],_=>⟨rfl,ju _⟩
 | t::ts,ok=>by
  rw [oks] at ok;obtain ⟨a1,a2⟩:=Ds t ok.1;obtain ⟨b1,b2⟩:=LM ts ok.2;rw [Ad,Fw];simp only [AN,AX,a1,b1,ku,true_and];omega
end
mutual
theorem eqV_refl:∀ d:Dv,d.cmp=true->R.eqV d d=true
 | .non,_=>rfl
 | .bl b,_=>by simp [R.eqV]
 | .int i,_=>by simp [R.eqV]
 | .str l,_=>by simp [R.eqV]
 | .tup xs,h=>by rw [R.eqV];exact FZ xs (by rw [Dv.cmp] at h;exact h)
 | .lst xs,h=>by rw [R.eqV];exact FZ xs (by rw [Dv.cmp] at h;exact h)
 | .dct _ _,h | .ref _,h | .scr _,h | .ty _,h | .mtp _,h | .dti _,h=>by simp [Dv.cmp] at h
theorem FZ:∀ ds:List Dv,AN ds=true->R.eqVs ds ds=true
 | [],_=>rfl
 | d::ds,h=>by
  rw [AN,jh] at h;rw [R.eqVs,eqV_refl d h.1,FZ ds h.2];rfl
end
theorem Dr {d:Dv} (h:d.cmp=true) (hd:d.dep<=150):Cg d d=some true/\Qo d d=some false:=by
 constructor<;>simp [Jk,h,hd,eqV_refl d h]
noncomputable abbrev Pt:=List Nat×T
noncomputable def BL (p:List Nat):Dv:=.tup (p.map fun k=>.int (k:Nat))
def Ak (q:Pt):Dv:=.tup [BL q.1,q.2.enc]
def Bv (p:List Nat):Nat->List T->List Pt
 | _,[]=>[]
 | k,t::ts=>(p++[k],t)::Bv p (k+1) ts
mutual
noncomputable def wk (p:List Nat):T->List Pt
 | .mk h ts=>(p,.mk h ts)::Fk p 0 ts
noncomputable def Fk (p:List Nat) (k:Nat):List T->List Pt
 | []=>[]
 | t::ts=>wk (p++[k]) t++Fk p (k+1) ts
end
theorem RD (p:List Nat):∀ (ts:List T) (k:Nat),Fk p k ts=(Bv p k ts).flatMap fun q=>wk q.1 q.2
 | [],_=>rfl
 | t::ts,k=>by rw [Fk,RD p ts (k+1),Bv,mI]
theorem Dq (p:List Nat):∀ (ts:List T) (k i:Nat),(Bv p k ts)[i]?=ts[i]?.map fun t=>(p++[k+i],t)
 | [],_,_=>rfl
 | t::ts,k,0=>rfl
 | t::ts,k,i+1=>by
  rw [Bv,lh,lh,Dq p ts (k+1) i,show k+1+i=k+(i+1) by omega]
theorem Cp (p:List Nat):∀ (ts:List T) (k:Nat),(Bv p k ts).length=ts.length
 | [],_=>rfl
 | t::ts,k=>by rw [Bv,kG,kG,Cp p ts]
mutual
theorem BO:∀ (t:T) (p:List Nat),(wk p t).length=t.sz
 | .mk h ts,p=>by rw [wk,T.sz,kG,NZ ts p 0];omega
theorem NZ:∀ (ts:List T) (p:List Nat) (k:Nat),(Fk p k ts).length=GX ts
 | [],_,_=>rfl
 | t::ts,p,k=>by rw [Fk,GX,kT,BO t,NZ ts]
end
theorem WV {h:Hd} {ts:List T} (ok:(T.mk h ts).ok) (p:List Nat):∀ q∈Bv p 0 ts,q.2.ok:=fun q hq=>by
 obtain ⟨i,hi⟩:=mB hq;rw [Dq] at hi;cases e:ts[i]? with
 | none=>rw [e] at hi;cases hi
 | some t =>
  rw [e] at hi;cases hi;rw [T.ok] at ok;exact By.mp ok.2.2 t (kh e)
theorem OA (p:List Nat) (k:Nat) (hp:p.length<=1000):Am (BL p) (.tup [.int (k:Nat)])=some (BL (p++[k])):=by
 unfold BL;simp only [Am,jv,kG,kq];rw [if_pos (by omega)];simp
theorem HI {p:List Nat} (hp:p.length<=1000) (x:Dv):∀ (ts:List T) (k:Nat),EC (BU (.tup [BL p,x])) (enumD k (Ad ts))=some ((Bv p k ts).map Ak)
 | [],k=>rfl
 | t::ts,k=>by
  rw [Ad,enumD,EC];have e:BU (.tup [BL p,x]) (.tup [.int (k:Nat),t.enc])=some (.tup [BL (p++[k]),t.enc]):=by
   unfold BU;rw [VA];simp only [Bf,dL,OA p k hp]
  simp only [e,dL,HI hp x ts (k+1),Bv,jz,Ak]
theorem GS {γ:Type} (t:γ->Option Bool) (g:γ->Option γ) (P:Nat->γ->Prop) (E:γ->Prop) (h:∀ m c,P m c->(t c=some false/\E c)\/(t c=some true/\∃ c' m',g c=some c'/\m' < m/\P m' c')):∀ (n m:Nat) (c:γ),m < n->P m c->∃ c',Xg t g n c=some c'/\E c'
 | 0,m,c,hm,_=>by omega
 | n+1,m,c,hm,p=>by
  rcases h m c p with ⟨e,q⟩ | ⟨e,c',m',e',hm',p'⟩
  ·exact ⟨c,by simp only [Xg,e,dL,jr,if_false],q⟩
  ·obtain ⟨c2,e2,q⟩:=GS t g P E h n m' c' (by omega) p';exact ⟨c2,by simp only [Xg,e,dL,if_true,e',e2],q⟩
abbrev Lq (q:Pt):List Pt:=wk q.1 q.2
def WI (W:List Pt) (fd st:List Pt):Prop:=fd++st.flatMap Lq=W/\∀ q∈st,q.2.ok/\q.1.length+q.2.dp<=500
theorem YM:∀ (st:List Pt),st.length<=(st.flatMap Lq).length
 | []=>ju _
 | (p,.mk h ts)::st=>by
  rw [mI,kT,kG];have:=YM st;show st.length+1<=(wk p (.mk h ts)).length+_;rw [wk,kG];omega
theorem WI.bd {W fd st:List Pt} (h:WI W fd st):fd.length+st.length<=W.length:=by
 have:=YM st;rw [<- h.1,kT];omega
theorem WI.turn {W fd st:List Pt} {p:List Nat} {hh:Hd} {ts:List T} (h:WI W fd ((p,.mk hh ts)::st)):WI W (fd++[(p,.mk hh ts)]) (Bv p 0 ts++st)/\((Bv p 0 ts++st).flatMap Lq).length < (((p,.mk hh ts)::st).flatMap Lq).length:=by
 have e:((p,T.mk hh ts)::st).flatMap Lq=(p,.mk hh ts)::(Bv p 0 ts++st).flatMap Lq:=by
  rw [mI,List.flatMap_append];show wk p (.mk hh ts)++_=_;rw [wk,RD,ly]
 refine ⟨⟨?_,fun q hq=>?_⟩,by rw [e,kG];omega⟩
 ·rw [<- h.1,e,kj];rfl
 ·obtain ⟨ok,hd⟩:=h.2 _ kA;rcases kU.mp hq with hq | hq
  ·refine ⟨WV ok p q hq,?_⟩;obtain ⟨i,hi⟩:=mB hq;rw [Dq] at hi;cases e:ts[i]? with
   | none=>rw [e] at hi;cases hi
   | some t =>
    rw [e] at hi;cases hi;have:=EO.mp (ju (Fw ts)) t (kh e);rw [T.dp] at hd;simp only [kT,kG,kq] at hd ⊢;omega
  ·exact h.2 q (kB _ hq)
theorem Ki {W fd st:List Pt} {q:Pt} (h:WI W fd (q::st)) (hW:W.length<=10000):∃ fd' st',BV (.lst (fd.map Ak),.lst ((q::st).reverse.map Ak))=some (.lst (fd'.map Ak),.lst (st'.reverse.map Ak))/\WI W fd' st'/\(st'.flatMap Lq).length < ((q::st).flatMap Lq).length:=by
 obtain ⟨p,hh,ts⟩:=q;have hb:=h.bd;obtain ⟨t1,t2⟩:=h.turn;have hb2:=t1.bd;obtain ⟨ok,hd⟩:=h.2 _ kA;refine ⟨_,_,?_,t1,t2⟩;simp only [kG,kT,Cp] at hb hb2;have e1:Ju (.lst (((p,T.mk hh ts)::st).reverse.map Ak)) []=some (Ak (p,.mk hh ts),.lst (st.reverse.map Ak)):=by
  simp [Ju,lq,lA]
 unfold BV;simp only [Hj,e1,dL];rw [HU (by rw [jv];omega)];have e2:AB (Ak (p,.mk hh ts)) (.int 1)=some (T.mk hh ts).enc:=rfl;have e3:Nr [.lst (Ad ts)]=some (enumD 0 (Ad ts)):=rfl;simp only [dL,e2,pin ok,e3];rw [DZ (by rw [enumD_len,AR];omega)];rw [show Ak (p,T.mk hh ts)=.tup [BL p,(T.mk hh ts).enc] from rfl,HI (by simp only at hd;omega)];simp only [dL,De,Hj];rw [fP (by simp [Cp];omega)];simp only [dL,lA,List.reverse_append,List.map_reverse,jz,lZ];rfl
theorem Hv {p:List Nat} (hp:p.length<=1000) (ts:List T) (hl:ts.length<=1000):∀ (n:Nat) (acc:List Dv),n<=ts.length->acc.length+n<=100000->Br (EX (BL p) (.lst (Ad ts))) ((List.range n).map fun q=>.int ((n:Int) - 1 - (q:Nat))) (.lst acc)=some (.lst (acc++(((Bv p 0 ts).take n).reverse.map Ak)))
 | 0,acc,_,_=>by simp [Br]
 | n+1,acc,hn,ha=>by
  have ht:ts[n]?=some ts[n]:=jl (by omega);rw [mO,jz,mF,Br];have e0:((n+1:Nat):Int) - 1 - ((0:Nat):Int)=(n:Nat):=by omega
  have e:EX (BL p) (.lst (Ad ts)) (.int (((n+1:Nat):Int) - 1 - ((0:Nat):Int))) (.lst acc)=some (.lst (acc++[Ak (p++[n],ts[n])])):=by
   rw [e0];unfold EX;simp only [Hj,OA p n hp,dL,JU ht];rw [HU (by omega)];rfl
  rw [e,dL];have e2:((fun q:Nat=>Dv.int (((n+1:Nat):Int) - 1 - (q:Nat)))∘Nat.succ)=fun q:Nat=>Dv.int ((n:Int) - 1 - (q:Nat)):=by
   funext q;simp only [Function.comp];congr 1;omega
  rw [e2,Hv hp ts hl n _ (by omega) (by simp;omega)];have e3:(Bv p 0 ts).take (n+1)=(Bv p 0 ts).take n++[(p++[n],ts[n])]:=by
   rw [List.take_succ,Dq,ht];simp
  rw [e3];simp
theorem Ov {W fd st:List Pt} {q:Pt} (h:WI W fd (q::st)) (hW:W.length<=10000):∃ fd' st',EW (.lst ((q::st).reverse.map Ak),.lst (fd.map Ak))=some (.lst (st'.reverse.map Ak),.lst (fd'.map Ak))/\WI W fd' st'/\(st'.flatMap Lq).length < ((q::st).flatMap Lq).length:=by
 obtain ⟨p,hh,ts⟩:=q;have hb:=h.bd;obtain ⟨t1,t2⟩:=h.turn;have hb2:=t1.bd;obtain ⟨ok,hd⟩:=h.2 _ kA;refine ⟨_,_,?_,t1,t2⟩;simp only [kG,kT,Cp] at hb hb2;have e1:Ju (.lst (((p,T.mk hh ts)::st).reverse.map Ak)) []=some (Ak (p,.mk hh ts),.lst (st.reverse.map Ak)):=by
  simp [Ju,lq,lA]
 have hl:ts.length<=1000:=by rw [T.ok] at ok;exact ok.2.1
 unfold EW;simp only [Hj,e1,dL];rw [show Ak (p,T.mk hh ts)=.tup [BL p,(T.mk hh ts).enc] from rfl,VA];rw [HU (by rw [jv];omega)];have er:PL [.int ((ts.length:Int) - 1),.int (-1),.int (-1)]=some ((List.range ts.length).map fun q=>.int ((ts.length:Int) - 1 - (q:Nat))):=by
  simp only [PL];rw [if_pos ⟨trivial,by omega,by omega,by omega,by omega⟩];rw [show ((ts.length:Int) - 1 - -1).toNat=ts.length by omega]
 simp only [dL,KS,pin ok,Ac,AR,Ap,BQ,if_true,HV,er];rw [Hv (by simp only at hd;omega) ts hl ts.length _ (ju _) (by simp;omega)];rw [mN (by rw [Cp];omega)];simp only [dL,lA,List.reverse_append,List.map_reverse,jz,lZ];rfl
theorem Vb {st:List Pt}:(st.reverse.map Ak).isEmpty=st.isEmpty:=by
 cases st with
 | nil=>rfl
 | cons a b=>simp
theorem KH {t:T} (ok:t.ok) (hd:t.dp<=400):WI (wk [] t) [] [([],t)]:=⟨by simp [Lq],fun q hq=>by
 rw [kY] at hq;subst hq;exact ⟨ok,by simp only [kq];omega⟩⟩
theorem Ft {t:T} (ok:t.ok) (hd:t.dp<=400) (hz:t.sz<=10000):BF t.enc=some (.lst ((wk [] t).map Ak)):=by
 obtain ⟨c,e,hc⟩:=GS DP BV (fun m c=>∃ fd st,c=(.lst (fd.map Ak),.lst (st.reverse.map Ak))/\WI (wk [] t) fd st/\m=(st.flatMap Lq).length) (fun c=>c.1=.lst ((wk [] t).map Ak)) (fun m c hc=>by
  obtain ⟨fd,st,rfl,hw,rfl⟩:=hc;cases st with
  | nil =>
   refine .inl ⟨rfl,?_⟩;have:=hw.1;simp only [List.flatMap_nil,lB] at this;rw [this]
  | cons q st =>
   obtain ⟨fd',st',e,h1,h2⟩:=Ki hw (by rw [BO];exact hz);refine .inr ⟨?_,_,_,e,h2,fd',st',rfl,h1,rfl⟩;show (Hr (.lst ((q::st).reverse.map Ak))).bind (fun b=>some b)=_;simp only [Hr,Vb];rfl) 1000000 (wk [] t).length (.lst [],.lst [.tup [.tup [],t.enc]]) (by rw [BO];omega) ⟨[],[([],t)],rfl,KH ok hd,by simp [Lq]⟩
 unfold BF;rw [e,dL,hc]
theorem Hu {t:T} (ok:t.ok) (hd:t.dp<=400) (hz:t.sz<=10000):FN t.enc=some (.lst ((wk [] t).map Ak)):=by
 obtain ⟨c,e,hc⟩:=GS GZ EW (fun m c=>∃ fd st,c=(.lst (st.reverse.map Ak),.lst (fd.map Ak))/\WI (wk [] t) fd st/\m=(st.flatMap Lq).length) (fun c=>c.2=.lst ((wk [] t).map Ak)) (fun m c hc=>by
  obtain ⟨fd,st,rfl,hw,rfl⟩:=hc;cases st with
  | nil =>
   refine .inl ⟨rfl,?_⟩;have:=hw.1;simp only [List.flatMap_nil,lB] at this;rw [this]
  | cons q st =>
   obtain ⟨fd',st',e,h1,h2⟩:=Ov hw (by rw [BO];exact hz);refine .inr ⟨?_,_,_,e,h2,fd',st',rfl,h1,rfl⟩;unfold GZ;simp only [Ac,dL,Bw,jv,lI,kG];rw [decide_eq_true (by omega)]) 1000000 (wk [] t).length (.lst [.tup [.tup [],t.enc]],.lst []) (by rw [BO];omega) ⟨[],[([],t)],rfl,KH ok hd,by simp [Lq]⟩
 unfold FN;rw [e,dL,hc]
theorem Dn {t:T} (ok:t.ok) (hd:t.dp<=400) (hz:t.sz<=10000):CY t.enc=some (.lst ((wk [] t).map fun q=>q.2.enc)):=by
 unfold CY;rw [Ft ok hd hz];simp only [dL,items];rw [DZ (by rw [jv,BO];omega),Co KQ (fun x=>match x with | .tup [_,y]=>y | _=>x) _ fun x hx=>by
  obtain ⟨q,_,rfl⟩:=lY.mp hx;rfl]
 simp only [dL,mF];rfl
theorem MO {t:T} (ok:t.ok) (hd:t.dp<=400) (hz:t.sz<=10000):Dj t.enc=some (.lst ((wk [] t).map fun q=>BL q.1)):=by
 unfold Dj;rw [Ft ok hd hz];simp only [dL,items];rw [DZ (by rw [jv,BO];omega),Co IF (fun x=>match x with | .tup [y,_]=>y | _=>x) _ fun x hx=>by
  obtain ⟨q,_,rfl⟩:=lY.mp hx;rfl]
 simp only [dL,mF];rfl
noncomputable def Du:List Nat->T->Option T
 | [],t=>some t
 | k::p,.mk _ ts=>match ts[k]? with | some t=>Du p t | none=>none
noncomputable def put (o:T):List Nat->T->T
 | [],_=>o
 | k::p,.mk h ts=>match ts[k]? with | some t=>.mk h (ts.set k (put o p t)) | none=>.mk h ts
theorem BI {k:Nat} {p:List Nat} {h:Hd} {ts:List T} {t:T} (e:Du (k::p) (.mk h ts)=some t):∃ u,ts[k]?=some u/\Du p u=some t:=by
 rw [Du] at e;cases q:ts[k]? with
 | none=>rw [q] at e;cases e
 | some u=>rw [q] at e;exact ⟨u,rfl,e⟩
theorem Ol {k:Nat} {p:List Nat} {h:Hd} {ts:List T} {u:T} (e:ts[k]?=some u):Du (k::p) (.mk h ts)=Du p u:=by rw [Du,e]
theorem BX {k:Nat} {p:List Nat} {h:Hd} {ts:List T} {u o:T} (e:ts[k]?=some u):put o (k::p) (.mk h ts)=.mk h (ts.set k (put o p u)):=by rw [put,e]
theorem FY {h:Hd} {ts:List T} {k:Nat} {u:T} (ok:(T.mk h ts).ok) (e:ts[k]?=some u):u.ok/\u.dp+1<=(T.mk h ts).dp:=by
 rw [T.ok] at ok;refine ⟨By.mp ok.2.2 u (kh e),?_⟩;have:=EO.mp (ju (Fw ts)) u (kh e);rw [T.dp];omega
theorem On:∀ {p:List Nat} {t u:T},t.ok->Du p t=some u->u.ok/\p.length+u.dp<=t.dp
 | [],t,u,ok,e=>by cases e;exact ⟨ok,by simp⟩
 | k::p,.mk h ts,u,ok,e=>by
  obtain ⟨v,e1,e2⟩:=BI e;obtain ⟨o1,o2⟩:=FY ok e1;obtain ⟨o3,o4⟩:=On o1 e2;exact ⟨o3,by rw [kG];omega⟩
theorem Nh:∀ {ts:List T} {k:Nat} {u v:T},ts[k]?=some u->GX (ts.set k v)+u.sz=GX ts+v.sz
 | [],k,u,v,e=>by simp at e
 | t::ts,0,u,v,e=>by simp at e;subst e;simp only [List.set_cons_zero,GX];omega
 | t::ts,k+1,u,v,e=>by
  have:=Nh (ts:=ts) (k:=k) (u:=u) (v:=v) (by simpa using e);simp only [List.set_cons_succ,GX];omega
theorem Gp {o:T} (oo:o.ok):∀ {p:List Nat} {t u:T},t.ok->Du p t=some u->(put o p t).ok/\(put o p t).dp<=t.dp+o.dp/\(put o p t).sz+u.sz=t.sz+o.sz
  | [],t,u,ok,e=>by cases e;exact ⟨oo,by rw [put];omega,by rw [put];omega⟩
  | k::p,.mk h ts,u,ok,e=>by
    obtain ⟨v,e1,e2⟩:=BI e;obtain ⟨o1,o2⟩:=FY ok e1;obtain ⟨h1,h2,h3⟩:=Gp oo o1 e2;rw [BX e1];have ok':=ok;rw [T.ok] at ok;refine ⟨?_,?_,?_⟩
    · rw [T.ok];refine ⟨by rw [kR];exact ok.1,by rw [kR];exact ok.2.1,By.mpr fun x hx=>?_⟩;rcases mG hx with hx | rfl
      · exact By.mp ok.2.2 x hx
      · exact h1
    · rw [T.dp,T.dp];have:Fw (ts.set k (put o p v))<=Fw ts+o.dp:=EO.mpr fun x hx=>by
        rcases mG hx with hx | rfl
        · have:=EO.mp (ju (Fw ts)) x hx;omega
        · rw [T.dp] at o2;omega
      omega
    · rw [T.sz,T.sz];have:=Nh (v:=put o p v) e1;omega
theorem Np {ts:List T} {k:Nat} {u:T} (h:k < ts.length):Bm (.lst (Ad ts)) (.int (k:Nat)) u.enc=some (.lst (Ad (ts.set k u))):=by
 simp only [Bm,Me,AR];rw [if_pos (by omega),if_pos (by omega)];simp [Cq,List.map_set]
theorem CN {α:Type} {ts:List α} {k:Nat} {u:α} (e:ts[k]?=some u):k < ts.length:=(jo.mp e).1
theorem cf {h:Hd} {ts us:List T} (ok:(T.mk h ts).ok) (hl:us.length=ts.length):Bh (T.mk h ts).enc (.lst (Ad us))=some (T.mk h us).enc:=by
 rw [T.ok] at ok;rw [T.enc,T.enc];exact Ou (by rw [AR];exact ok.1) (by rw [AR,AR];exact hl)
theorem IJ:∀ {p:List Nat} {t u:T},t.ok->Du p t=some u->GG Di (p.map fun k=>Dv.int (k:Nat)) t.enc=some (.go u.enc)
 | [],t,u,ok,e=>by cases e;rfl
 | k::p,.mk h ts,u,ok,e=>by
  obtain ⟨v,e1,e2⟩:=BI e;obtain ⟨o1,_⟩:=FY ok e1;have hk:=CN e1;have:Di (.int (k:Nat)) (T.mk h ts).enc=some (.go v.enc):=by
   unfold Di;have b1:cU (.int 0) (.int (k:Nat))=some true:=by simp [cU,Bw]
   have b2:Hq (.int (k:Nat)) (.int (ts.length:Nat))=some true:=by simp [Hq,Bw];exact hk
   simp only [pin ok,dL,b1,if_true,Ac,AR,b2,nB,jr,if_false,JU e1]
  rw [jz,GG,this];exact IJ o1 e2
theorem JP {p:List Nat} {t u:T} (ok:t.ok) (e:Du p t=some u):EY t.enc (BL p)=some u.enc:=by
 unfold EY BL;simp only [items,dL,IJ ok e];rfl
noncomputable def Jp:List Nat->T->List Dv
 | [],_=>[]
 | k::p,.mk h ts=>.tup [(T.mk h ts).enc,.int (k:Nat)]::(match ts[k]? with | some t=>Jp p t | none=>[])
theorem Xx:∀ {p:List Nat} {t u:T} (acc:List Dv),t.ok->Du p t=some u->acc.length+p.length<=10000->Br CV (p.map fun k=>Dv.int (k:Nat)) (.lst acc,t.enc)=some (.lst (acc++Jp p t),u.enc)
 | [],t,u,acc,ok,e,_=>by cases e;simp [Br,Jp]
 | k::p,.mk h ts,u,acc,ok,e,hl=>by
  obtain ⟨v,e1,e2⟩:=BI e;obtain ⟨o1,_⟩:=FY ok e1;have:CV (.int (k:Nat)) (.lst acc,(T.mk h ts).enc)=some (.lst (acc++[.tup [(T.mk h ts).enc,.int (k:Nat)]]),v.enc):=by
   unfold CV;simp only [Hj];rw [HU (by omega)];simp only [dL,pin ok,JU e1]
  rw [jz,Br,this,dL,Xx _ o1 e2 (by simp only [kG,kT] at hl ⊢;simp;omega),Jp,e1];simp
theorem Fv {γ:Type} (g:Dv->γ->Option γ):∀ (xs ys:List Dv) (c:γ),Br g (xs++ys) c=(Br g xs c).bind (Br g ys)
 | [],ys,c=>rfl
 | x::xs,ys,c=>by
  rw [ly,Br,Br];cases g x c with
  | none=>rfl
  | some c1=>simp only [dL];exact Fv g xs ys c1
theorem Xw {o:T}:∀ {p:List Nat} {t u:T},t.ok->Du p t=some u->Br CU (Jp p t).reverse o.enc=some (put o p t).enc
 | [],t,u,ok,e=>by simp [Jp,Br,put]
 | k::p,.mk h ts,u,ok,e=>by
  obtain ⟨v,e1,e2⟩:=BI e;obtain ⟨o1,_⟩:=FY ok e1;rw [Jp,e1,lq,Fv];simp only;rw [Xw (o:=o) o1 e2,dL,BX e1];have:CU (.tup [(T.mk h ts).enc,.int (k:Nat)]) (put o p v).enc=some (T.mk h (ts.set k (put o p v))).enc:=by
   unfold CU;have i1:AB (.tup [(T.mk h ts).enc,.int (k:Nat)]) (.int 1)=some (.int (k:Nat)):=rfl;simp only [Bf,i1,dL,pin ok,Np (CN e1),cf ok (kR ..)]
  rw [Br,this];rfl
theorem Ax {p:List Nat} {t u o:T} (ok:t.ok) (e:Du p t=some u) (hd:t.dp<=1000):Aw t.enc (BL p) o.enc=some (put o p t).enc:=by
 have hl:=(On ok e).2;unfold Aw BL;simp only [items,dL];rw [Xx [] ok e (by simp;omega),mD,dL];have:VW [(Dv.lst (Jp p t),u.enc).1]=some (Jp p t).reverse:=rfl;rw [this,dL,Xw ok e];rfl
theorem Mw (a:Dv) (r:List Dv):cutA (a::r) (some 1) none=r:=by
 unfold cutA HT.sIx;simp
theorem QA {h:Hd} {ts us:List T} {k:Nat} {p:List Nat} {n:Nat} {v w o:T} (ok:(T.mk h ts).ok) (e:ts[k]?=some v) (hr:CH n v.enc (BL p) o.enc=some w.enc):CH (n+1) (T.mk h ts).enc (BL (k::p)) o.enc=some (T.mk h (ts.set k w)).enc:=by
 have hk:=CN e;have okk:=ok;rw [T.ok] at okk;have i0:AB (BL (k::p)) (.int 0)=some (.int (k:Nat)):=Bf _ _;have l0:Ac (BL (k::p))=some (.int ((k::p).length:Nat)):=by unfold BL;simp [Ac]
 have b0:Cg (.int ((k::p).length:Nat)) (.int 0)=some false:=by rw [Bp];simp;omega
 have s0:Ey (BL (k::p)) (some 1) none=some (BL p):=by unfold BL;simp only [Ey,jz,Mw]
 rw [CH];simp only [l0,dL,b0,jr,if_false,KS,pin ok,i0,JU e,s0,hr,Np hk];unfold Nj Ni;have hx:h.ok (Ad (ts.set k w)).length:=by rw [AR,kR];exact okk.1
 rw [T.enc,T.enc];have hx0:h.ok (Ad ts).length:=by rw [AR];exact okk.1
 have hle:(Ad (ts.set k w)).length=(Ad ts).length:=by rw [AR,AR,kR]
 have hpos:0 < (Ad ts).length:=by rw [AR];omega
 revert hx hx0 hle hpos
 generalize Ad (ts.set k w)=es;generalize Ad ts=ds;intro hx hx0 hle hpos;cases h with
 | leaf w x=>have:=hx0.1;omega
 | many c x=>cases c<;>simp only [BR,Bf,dL,BA,jr,if_true,if_false,decide_true,show ¬ (cCall=Ij) by decide]<;>rfl
 | two c x =>
  obtain ⟨a,b,rfl⟩:=QD hx0.1;obtain ⟨a',b',rfl⟩:=QD hx.1;cases c<;>simp only [BR,Bf,dL,BA,jr,if_true,if_false,decide_true,decide_false,show ¬ (DF=Ij) by decide,show ¬ (DF=cCall) by decide,show ¬ (Ji=Ij) by decide,show ¬ (Ji=cCall) by decide,show ¬ (Ji=DF) by decide]<;>rfl
 | loop x y =>
  obtain ⟨a,b,c,rfl⟩:=QC hx0.1;obtain ⟨a',b',c',rfl⟩:=QC hx.1;simp only [BR,Bf,dL,BA,jr,if_true,if_false,decide_true,decide_false,show ¬ (Bb=Ij) by decide,show ¬ (Bb=cCall) by decide,show ¬ (Bb=DF) by decide,show ¬ (Bb=Ji) by decide];rfl
 | pick =>
  obtain ⟨a,r,rfl⟩:=QE hx0;obtain ⟨a',r',rfl⟩:=QE hx;simp only [BR,Bf,dL,BA,jr,if_true,if_false,decide_true,decide_false,show ¬ (Ba=Ij) by decide,show ¬ (Ba=cCall) by decide,show ¬ (Ba=DF) by decide,show ¬ (Ba=Ji) by decide,show ¬ (Ba=Bb) by decide];have e1:AB (.lst (a'::r')) (.int 0)=some a':=atI_nat (a'::r') 0 (by simp);simp only [e1,dL,Ey,Mw,Bl]
theorem IM {o:T}:∀ {p:List Nat} {t u:T} (n:Nat),p.length < n->t.ok->Du p t=some u->CH n t.enc (BL p) o.enc=some (put o p t).enc
 | [],t,u,0,h,_,_=>by simp at h
 | _::_,t,u,0,h,_,_=>by simp at h
 | [],t,u,n+1,h,ok,e=>by
  rw [CH];have l0:Ac (BL [])=some (.int 0):=rfl;simp only [l0,dL,Bp,decide_true,if_true,put]
 | k::p,.mk h ts,u,n+1,hn,ok,e=>by
  obtain ⟨v,e1,e2⟩:=BI e;obtain ⟨o1,_⟩:=FY ok e1;rw [BX e1];exact QA (us:=[]) ok e1 (IM n (by simp only [kG] at hn;omega) o1 e2)
noncomputable def zI (p:List Nat):List Int:=p.map fun k:Nat=>(k:Int)
def Ut (p q:List Nat):Prop:=HT.lexLt (zI p) (zI q)=true
theorem WS (p x y:List Int):HT.lexLt (p++x) (p++y)=HT.lexLt x y:=by
 induction p with
 | nil=>rfl
 | cons a p ih=>rw [ly,ly,HT.lexLt_cons,if_pos rfl,ih]
theorem OC {p x y:List Nat} (h:Ut x y):Ut (p++x) (p++y):=by
 unfold Ut zI at h ⊢;rw [lA,lA,WS];exact h
theorem Vr {k:Nat} {r:List Nat}:Ut [] (k::r):=rfl
theorem Zr {i j:Nat} {r s:List Nat} (h:i < j):Ut (i::r) (j::s):=by
 unfold Ut zI;rw [jz,jz,HT.lexLt_cons,if_neg (by omega)];exact decide_eq_true (by omega)
theorem HA:∀ {x y:List Int},HT.lexLt x y=true->HT.lexLt y x=false
 | [],[],h=>by cases h
 | [],_::_,_=>rfl
 | _::_,[],h=>by cases h
 | a::x,b::y,h=>by
  rw [HT.lexLt_cons] at h ⊢
  by_cases e:a=b
  ·subst e;rw [if_pos rfl] at h ⊢;exact HA h
  ·rw [if_neg e] at h;rw [if_neg (fun z=>e z.symm)];have:=of_decide_eq_true h;exact decide_eq_false (by omega)
mutual
theorem Lo:∀ (t:T) (p:List Nat),(wk p t).Pairwise (fun a b=>Ut a.1 b.1)/\∀ q∈wk p t,∃ r,q.1=p++r
 | .mk h ts,p=>by
  obtain ⟨h1,h2⟩:=NY ts p 0;rw [wk];refine ⟨mY.mpr ⟨fun q hq=>?_,h1⟩,fun q hq=>?_⟩
  ·obtain ⟨j,r,_,e⟩:=h2 q hq;rw [e];have:=OC (p:=p) (Vr (k:=j) (r:=r))
   rwa [lB] at this
  ·rcases kZ.mp hq with rfl | hq
   ·exact ⟨[],by simp⟩
   ·obtain ⟨j,r,_,e⟩:=h2 q hq;exact ⟨_,e⟩
theorem NY:∀ (ts:List T) (p:List Nat) (k:Nat),(Fk p k ts).Pairwise (fun a b=>Ut a.1 b.1)/\∀ q∈Fk p k ts,∃ j r,k<=j/\q.1=p++(j::r)
 | [],_,_=>by rw [Fk];exact ⟨List.Pairwise.nil,fun _ z=>(lV z).elim⟩
 | t::ts,p,k=>by
  obtain ⟨h1,h2⟩:=Lo t (p++[k]);obtain ⟨h3,h4⟩:=NY ts p (k+1);rw [Fk];refine ⟨List.pairwise_append.mpr ⟨h1,h3,fun a ha b hb=>?_⟩,fun q hq=>?_⟩
  ·obtain ⟨r,e⟩:=h2 a ha;obtain ⟨j,s,hj,e'⟩:=h4 b hb;rw [e,e',kj];exact OC (Zr (by omega))
  ·rcases kU.mp hq with hq | hq
   ·obtain ⟨r,e⟩:=h2 q hq;exact ⟨k,r,ju _,by rw [e,kj];rfl⟩
   ·obtain ⟨j,r,hj,e⟩:=h4 q hq;exact ⟨j,r,by omega,e⟩
end
mutual
theorem RI:∀ (t:T) (p:List Nat) (q:Pt),q∈wk p t->∃ r,q.1=p++r/\Du r t=some q.2
 | .mk h ts,p,q,hq=>by
  rw [wk] at hq;rcases kZ.mp hq with rfl | hq
  ·exact ⟨[],by simp,rfl⟩
  ·obtain ⟨j,r,u,e1,e2,e3⟩:=RE ts p 0 q hq;exact ⟨j::r,by rw [e1,mf],by rw [Ol e2];exact e3⟩
theorem RE:∀ (ts:List T) (p:List Nat) (k:Nat) (q:Pt),q∈Fk p k ts->∃ j r u,q.1=p++((k+j)::r)/\ts[j]?=some u/\Du r u=some q.2
 | [],_,_,q,hq=>by rw [Fk] at hq;cases hq
 | t::ts,p,k,q,hq=>by
  rw [Fk] at hq;rcases kU.mp hq with hq | hq
  ·obtain ⟨r,e1,e2⟩:=RI t (p++[k]) q hq;exact ⟨0,r,t,by rw [e1,kj];rfl,rfl,e2⟩
  ·obtain ⟨j,r,u,e1,e2,e3⟩:=RE ts p (k+1) q hq;exact ⟨j+1,r,u,by rw [e1,show k+1+j=k+(j+1) by omega],by simpa using e2,e3⟩
end
theorem RG {o:T}:∀ (p:List Nat) (t u:T) (q:List Nat),Du p t=some u->∃ pre pre' post,wk q t=pre++(wk (q++p) u++post)/\wk q (put o p t)=pre'++(wk (q++p) o++post)/\pre.length=pre'.length
 | [],t,u,q,e=>by cases e;exact ⟨[],[],[],by simp,by simp [put],rfl⟩
 | k::p,.mk h ts,u,q,e=>by
  obtain ⟨v,e1,e2⟩:=BI e;have key:∀ (ts:List T) (j k:Nat),ts[k]?=some v->∃ pre pre' post,Fk q j ts=pre++(wk (q++(j+k)::p) u++post)/\Fk q j (ts.set k (put o p v))=pre'++(wk (q++(j+k)::p) o++post)/\pre.length=pre'.length:=by
   intro ts
   induction ts with
   | nil=>intro j k z;simp at z
   | cons t ts ih =>
    intro j k z;cases k with
    | zero =>
     simp at z;subst z;obtain ⟨pre,pre',post,a1,a2,a3⟩:=RG p t u (q++[j]) e2;refine ⟨pre,pre',post++Fk q (j+1) ts,?_,?_,a3⟩
     ·rw [Fk,a1];simp
     ·rw [List.set_cons_zero,Fk,a2];simp
    | succ k =>
     obtain ⟨pre,pre',post,a1,a2,a3⟩:=ih (j+1) k (by simpa using z);rw [show j+1+k=j+(k+1) by omega] at a1 a2;refine ⟨wk (q++[j]) t++pre,wk (q++[j]) t++pre',post,?_,?_,by simp [a3]⟩
     ·rw [Fk,a1];simp
     ·rw [List.set_cons_succ,Fk,a2];simp
  obtain ⟨pre,pre',post,a1,a2,a3⟩:=key ts 0 k e1;rw [mf] at a1 a2;refine ⟨(q,.mk h ts)::pre,(q,.mk h (ts.set k (put o p v)))::pre',post,?_,?_,by simp [a3]⟩
  ·rw [wk,a1];rfl
  ·rw [BX e1,wk,a2];rfl
mutual
theorem RF:∀ (t:T) (p q:List Nat),(wk p t).map (fun z=>z.2.enc)=(wk q t).map fun z=>z.2.enc
 | .mk h ts,p,q=>by rw [wk,wk,jz,jz,NX ts p q 0 0]
theorem NX:∀ (ts:List T) (p q:List Nat) (j k:Nat),(Fk p j ts).map (fun z=>z.2.enc)=(Fk q k ts).map fun z=>z.2.enc
 | [],_,_,_,_=>by rw [Fk,Fk]
 | t::ts,p,q,j,k=>by rw [Fk,Fk,lA,lA,RF t (p++[j]) (q++[k]),NX ts p q (j+1) (k+1)]
end
theorem set_at {α:Type} {ts:List α} {k:Nat} {v w:α} (e:ts[k]?=some v):(ts.set k w)[k]?=some w:=kW (CN e)
theorem NP {o:T}:∀ {p:List Nat} {t u:T},Du p t=some u->Du p (put o p t)=some o
 | [],t,u,e=>rfl
 | k::p,.mk h ts,u,e=>by
  obtain ⟨v,e1,e2⟩:=BI e;rw [BX e1,Ol (set_at e1)];exact NP e2
theorem Kb {o:T}:∀ {p:List Nat} {t u:T},Du p t=some u->put u p (put o p t)=t
 | [],t,u,e=>by cases e;rfl
 | k::p,.mk h ts,u,e=>by
  obtain ⟨v,e1,e2⟩:=BI e;rw [BX e1,BX (set_at e1),Kb e2,mh,DS e1]
def Li:List Nat->List Nat->Prop
 | a::p,b::q=>a≠b\/(a=b/\Li p q)
 | _,_=>False
theorem Ud:∀ {p q:List Nat},p.take (min p.length q.length)≠q.take (min p.length q.length)->Li p q
 | [],q,h=>by simp at h
 | _::_,[],h=>by simp at h
 | a::p,b::q,h=>by
  rw [Li]
  by_cases e:a=b
  ·subst e;refine .inr ⟨rfl,Ud fun z=>h ?_⟩;rw [kG,kG,Nat.succ_min_succ,mV,mV,z]
  ·exact .inl e
theorem HS:∀ {p q:List Nat},Li p q->Li q p
 | [],_,h=>by rw [Li] at h;exact h.elim;all_goals simp
 | _::_,[],h=>by rw [Li] at h;exact h.elim;all_goals simp
 | a::p,b::q,h=>by
  rw [Li] at h ⊢;exact h.imp (fun z w=>z w.symm) fun z=>⟨z.1.symm,HS z.2⟩
theorem Jq {o:T}:∀ {p q:List Nat} {t u v:T},Li p q->Du p t=some u->Du q t=some v->Du p (put o q t)=some u
 | [],_,t,u,v,h,_,_=>by rw [Li] at h;exact h.elim;all_goals simp
 | _::_,[],t,u,v,h,_,_=>by rw [Li] at h;exact h.elim;all_goals simp
 | a::p,b::q,.mk h ts,u,v,hp,e1,e2=>by
  obtain ⟨x,a1,a2⟩:=BI e1;obtain ⟨y,b1,b2⟩:=BI e2;rw [BX b1];rw [Li] at hp;rcases hp with ne | ⟨rfl,hp⟩
  ·rw [Ol (u:=x) (by rw [kQ (fun z=>ne z.symm)];exact a1)];exact a2
  ·rw [a1] at b1;cases b1;rw [Ol (set_at a1)];exact Jq hp a2 b2
theorem Lh {o o':T}:∀ {p q:List Nat} {t u v:T},Li p q->Du p t=some u->Du q t=some v->put o' p (put o q t)=put o q (put o' p t)
 | [],_,t,u,v,h,_,_=>by rw [Li] at h;exact h.elim;all_goals simp
 | _::_,[],t,u,v,h,_,_=>by rw [Li] at h;exact h.elim;all_goals simp
 | a::p,b::q,.mk h ts,u,v,hp,e1,e2=>by
  obtain ⟨x,a1,a2⟩:=BI e1;obtain ⟨y,b1,b2⟩:=BI e2;rw [BX b1,BX a1];rw [Li] at hp;rcases hp with ne | ⟨rfl,hp⟩
  ·rw [BX (u:=x) (by rw [kQ (fun z=>ne z.symm)];exact a1),BX (u:=y) (by rw [kQ ne];exact b1),List.set_comm _ _ (fun z=>ne z.symm)]
  ·rw [a1] at b1;cases b1;rw [BX (set_at a1),BX (set_at a1),Lh hp a2 b2,mh,mh]
theorem eqVs_ints:∀ p q:List Nat,R.eqVs (p.map fun k=>Dv.int (k:Nat)) (q.map fun k=>Dv.int (k:Nat))=decide (p=q)
 | [],[]=>rfl
 | [],_::_=>rfl
 | _::_,[]=>rfl
 | a::p,b::q=>by
  rw [jz,jz,R.eqVs,eqVs_ints p q];simp only [R.eqV]
  by_cases e:a=b
  ·subst e;simp
  ·have:((a:Int) == (b:Int))=false:=by simpa using (fun z=>e (by omega))
   rw [this];simp [e]
theorem Nd:∀ p:List Nat,AN (p.map fun k=>Dv.int (k:Nat))=true/\AX (p.map fun k=>Dv.int (k:Nat))=0
 | []=>⟨rfl,rfl⟩
 | a::p=>by
  obtain ⟨h1,h2⟩:=Nd p;simp [AN,AX,Dv.cmp,Dv.dep,h1,h2]
theorem GL (p:List Nat):(BL p).cmp=true/\(BL p).dep=1:=by
 obtain ⟨h1,h2⟩:=Nd p;unfold BL;simp [Dv.cmp,Dv.dep,h1,h2]
theorem JL (p q:List Nat):R.eqV (BL p) (BL q)=decide (p=q):=by
 unfold BL;rw [R.eqV];exact eqVs_ints p q
theorem Gu:∀ ws:List Pt,AN (ws.map fun q=>BL q.1)=true/\AX (ws.map fun q=>BL q.1)<=1
 | []=>⟨rfl,by simp [AX]⟩
 | q::ws=>by
  obtain ⟨h1,h2⟩:=Gu ws;obtain ⟨h3,h4⟩:=GL q.1;simp only [jz,AN,AX,h1,h3,h4,ku,true_and];omega
theorem KC {n:Nat}:∀ ws:List Pt,(∀ q∈ws,q.2.enc.cmp=true/\q.2.enc.dep<=n)->AN (ws.map fun q=>q.2.enc)=true/\AX (ws.map fun q=>q.2.enc)<=n
 | [],_=>⟨rfl,by simp [AX]⟩
 | q::ws,h=>by
  obtain ⟨h1,h2⟩:=KC ws fun x hx=>h x (kB _ hx)
  obtain ⟨h3,h4⟩:=h q kA;simp only [jz,AN,AX,h1,h3,ku,true_and];omega
theorem Yp {t:T} (ok:t.ok):∀ q∈wk [] t,q.2.ok/\q.2.dp<=t.dp:=fun q hq=>by
 obtain ⟨r,_,e⟩:=RI t [] q hq;obtain ⟨h1,h2⟩:=On ok e;exact ⟨h1,by omega⟩
theorem RH {t:T} (ok:t.ok) (hd:t.dp<=60):AN ((wk [] t).map fun q=>q.2.enc)=true/\AX ((wk [] t).map fun q=>q.2.enc)<=120:=
 KC _ fun q hq=>by
  obtain ⟨h1,h2⟩:=Yp ok q hq;obtain ⟨h3,h4⟩:=Ds q.2 h1;exact ⟨h3,by omega⟩
theorem IU (p:List Nat):∀ (ws:List Pt) (j:Nat) (u:T),ws.Pairwise (fun a b=>Ut a.1 b.1)->ws[j]?=some (p,u)->JX (BL p) (ws.map fun q=>BL q.1)=some j
 | [],j,u,_,e=>by simp at e
 | w::ws,0,u,_,e=>by
  simp at e;subst e;rw [jz,JX,JL,decide_eq_true rfl,if_pos rfl]
 | w::ws,j+1,u,h,e=>by
  rw [mY] at h;have hm:(p,u)∈ws:=kh (by simpa using e);have ne:¬ w.1=p:=fun z=>by
   have h1:=h.1 _ hm;rw [z] at h1;have h1:HT.lexLt (zI p) (zI p)=true:=h1;rw [HA h1] at h1;cases h1
  rw [jz,JX,JL,decide_eq_false ne,if_neg kI,IU p ws j u h.2 (by simpa using e)];rfl
theorem Nc:∀ p:List Nat,CD (p.map fun k=>Dv.int (k:Nat))=some (zI p)
 | []=>rfl
 | a::p=>by rw [jz,CD,Nc p];rfl
theorem Nb:∀ ws:List Pt,Fm (ws.map fun q=>BL q.1)=some (ws.map fun q=>zI q.1)
 | []=>rfl
 | q::ws=>by rw [jz,BL,Fm,Nc,dL];show (Fm (ws.map fun q=>BL q.1)).map _=_;rw [Nb ws];rfl
theorem Yg:∀ ws:List Pt,ws.Pairwise (fun a b=>Ut a.1 b.1)->NQ (ws.map fun q=>zI q.1)=true
 | [],_=>rfl
 | [_],_=>rfl
 | a::b::ws,h=>by
  rw [mY] at h;have h1:HT.lexLt (zI a.1) (zI b.1)=true:=h.1 b kA;have ih:=Yg (b::ws) h.2;simp only [jz] at ih ⊢;rw [NQ,HA h1,ih];rfl
theorem Hf {t:T} (hz:t.sz<=10000):Dx (.lst ((wk [] t).map fun q=>BL q.1))=some (.lst ((wk [] t).map fun q=>BL q.1)):=by
 have hl:(wk [] t).length<=10000:=by rw [BO];exact hz
 have ho:=(Lo t []).1;have hv:=Nb (wk [] t);have ha:=Yg _ ho;cases t with
 | mk h ts =>
  have e0:Js (.lst ((wk [] (.mk h ts)).map fun q=>BL q.1))=none:=by
   rw [wk,jz];rfl
  have e1:iD ((wk [] (.mk h ts)).map fun q=>zI q.1)=true:=by rw [wk,jz];rfl
  unfold Dx;rw [e0];simp only [Jt,hv,dL,e1,ha,nA,jv];rw [decide_eq_true (by omega)];rfl
theorem Wl {α:Type} (pre mid post:List α):cutA (pre++(mid++post)) (some (pre.length:Nat)) (some ((pre.length:Int)+(mid.length:Nat)))=mid:=by
 unfold cutA HT.sIx;simp only [kT];rw [if_neg (by omega),if_neg (by omega)];rw [show min ((pre.length:Nat):Int).toNat (pre.length+(mid.length+post.length))=pre.length by omega,show min ((pre.length:Int)+(mid.length:Nat)).toNat (pre.length+(mid.length+post.length))=pre.length+mid.length by omega];simp
theorem Pf {p:List Nat} {t u o:T} (ok:t.ok) (oo:o.ok) (hd:t.dp<=20) (od:o.dp<=20) (hz:t.sz<=100) (oz:o.sz<=100) (e:Du p t=some u):CJ t.enc (.lst ((wk [] t).map Ak)) (BL p) o.enc=some (.bl true):=by
 obtain ⟨u1,u2⟩:=On ok e;obtain ⟨f1,f2,f3⟩:=Gp oo ok e;obtain ⟨c1,c2⟩:=Ds _ f1;obtain ⟨d1,d2⟩:=Ds o oo;obtain ⟨g1,g2⟩:=Ds t ok;obtain ⟨pre,pre',post,w1,w2,w3⟩:=RG (o:=o) p t u [] e;rw [mD] at w1 w2;have usz:1<=u.sz:=by cases u with | mk h ts=>rw [T.sz];omega
 have hat:(wk [] t)[pre.length]?=some (p,u):=by
  rw [w1,kS (ju _),lF];cases u with | mk h ts=>rw [wk];rfl
 -- what the program tells
 have r1:=Ax (o:=o) ok e (by omega);have p1:OM t.enc (BL p) o.enc=some (put o p t).enc:=by rw [LA];exact IM 40 (by omega) ok e
 have a1:=JP f1 (NP (o:=o) e);have t1:Ct t.enc (BL p) o.enc (put o p t).enc=some false:=by
  unfold Ct;simp only [p1,dL,(Dr c1 (by omega)).2,jr,if_false,a1,(Dr d1 (by omega)).2]
 have m1:EC Cz ((wk [] t).map Ak)=some ((wk [] t).map fun q=>BL q.1):=by
  rw [Co Cz (fun x=>match x with | .tup [y,_]=>y | _=>x) _ fun x hx=>by
   obtain ⟨q,_,rfl⟩:=lY.mp hx;rfl,mF];rfl
 have m2:EC Cy ((wk [] (put o p t)).map Ak)=some ((wk [] (put o p t)).map fun q=>q.2.enc):=by
  rw [Co Cy (fun x=>match x with | .tup [_,y]=>y | _=>x) _ fun x hx=>by
   obtain ⟨q,_,rfl⟩:=lY.mp hx;rfl,mF];rfl
 have ix:=IU p (wk [] t) pre.length u (Lo t []).1 hat;have i1:Cw (BL p) ((wk [] t).map fun q=>BL q.1)=some (.int (pre.length:Nat)):=by
  obtain ⟨k1,k2⟩:=Gu (wk [] t);have:Fj (.lst ((wk [] t).map fun q=>BL q.1)) (BL p)=some (.int (pre.length:Nat)):=by
   simp only [Fj,(GL p).1,k1,ku,nA];rw [if_pos (decide_eq_true (by omega)),ix];rfl
  unfold Cw;simp only [Hj,this,dL];rfl
 have i2:AB (.lst ((wk [] t).map Ak)) (.int (pre.length:Nat))=some (Ak (p,u)):=by
  have hl:=CN hat;show ED _ _=_;rw [atI_nat _ _ (by rw [jv];exact hl)];congr 1;rw [List.getElem_map,(jo.mp hat).2]
 have i3:AB (Ak (p,u)) (.int 1)=some u.enc:=rfl;have pu:=Dn u1 (by omega) (show u.sz<=10000 by omega);have po:=Dn oo (by omega) (show o.sz<=10000 by omega);have pf:=Dn f1 (by omega) (show (put o p t).sz<=10000 by omega);have wf:=Hu f1 (by omega) (show (put o p t).sz<=10000 by omega);have lt:=BO t [];have lf:=BO (put o p t) [];have lo:=BO o [];have lop:=BO o p;have lup:=BO u p;have lu:=BO u [];obtain ⟨v1,v2⟩:=RH f1 (by omega);obtain ⟨o1,o2⟩:=RH oo (by omega);have sl:Ey (.lst ((wk [] (put o p t)).map fun q=>q.2.enc)) (some (pre.length:Nat)) (some ((pre.length:Int)+((wk [] o).length:Nat)))=some (.lst ((wk [] o).map fun q=>q.2.enc)):=by
  simp only [Ey];rw [w2,lA,lA];have:=Wl (pre'.map fun q=>q.2.enc) ((wk p o).map fun q=>q.2.enc) (post.map fun q=>q.2.enc);rw [jv,jv,<- w3,lop,<- lo] at this;rw [this,RF o p []]
 have eqL:∀ {ds:List Dv},AN ds=true->AX ds<=120->Qo (.lst ds) (.lst ds)=some false:=fun {ds} h1 h2=>(Dr (d:=.lst ds) (by rw [Dv.cmp];exact h1) (by rw [Dv.dep];omega)).2
 have t2:Cs o.enc (put o p t).enc (.int (pre.length:Nat)) ((wk [] (put o p t)).map fun q=>q.2.enc)=some false:=by
  unfold Cs;simp only [pf,dL,eqL v1 v2,jr,if_false,cH,po,Ac,jv,Bt,sl,eqL o1 o2]
 have i4:Cv t.enc (BL p) (put o p t).enc u.enc=some (.bl true):=by
  have r2:=Ax (o:=u) f1 (NP (o:=o) e) (by omega);rw [Kb e] at r2;have pp:=MO f1 (by omega) (show (put o p t).sz<=10000 by omega);obtain ⟨k1,k2⟩:=Gu (wk [] (put o p t));have eqP:Cg (.lst ((wk [] (put o p t)).map fun q=>BL q.1)) (.lst ((wk [] (put o p t)).map fun q=>BL q.1))=some true:=(Dr (d:=.lst _) (by rw [Dv.cmp];exact k1) (by rw [Dv.dep];omega)).1;unfold Cv;simp only [r2,dL,(Dr g1 (by omega)).1,ia,if_true,pp,Hf (show (put o p t).sz<=10000 by omega),eqP]
 unfold CJ;simp only [r1,dL,t1,jr,if_false,items];rw [DZ (by rw [jv];omega)];simp only [m1,dL,i1,i2,i3,pu,Ac,jv,Bt,wf];rw [DZ (by rw [jv];omega)];simp only [m2,dL,t2,jr,if_false,Ac,jv,Ap,BQ,if_true,po];have l1:(wk [] t).length=pre.length+(u.sz+post.length):=by rw [w1];simp [lup]
 have l2:(wk [] (put o p t)).length=pre.length+(o.sz+post.length):=by rw [w2];simp [lop,w3]
 have ne:Qo (.int (((wk [] (put o p t)).length:Int) - (pre.length:Nat) - ((wk [] o).length:Nat))) (.int (((wk [] t).length:Int) - ((pre.length:Int)+((wk [] u).length:Nat))))=some false:=by
  rw [XX,decide_eq_true (by omega)];rfl
 simp only [ne,dL,jr,if_false,i4]
def Gd (room far:Nat) (t:T):Prop:=t.ok/\t.sz<=room/\t.dp<=far+1
def cW (x:Dv):Prop:=∃ ws,x=.lst ws/\ws.length=5/\∀ w∈ws,Tx 5 w
theorem Fo {N:Nat} {x:Dv} (h:Tx N x):HK x:=by obtain ⟨l,rfl,_⟩:=h;exact ⟨rfl,rfl⟩
theorem Ci {f w:Dv} (hf:Fd f) (hw:cW w):∃ (r:Nat) (f' x:Dv),Ac w=some (.int 5)/\AJ f (.int 5)=some (.int r,f')/\AB w (.int r)=some x/\Tx 5 x/\Fd f':=by
 obtain ⟨ws,rfl,hl,ht⟩:=hw;obtain ⟨r,f',e,hr,hf'⟩:=AE hf (n:=5) (by decide) (by decide);obtain ⟨x,hx,ex⟩:=Yi (xs:=ws) (i:=r) (by omega) (by omega);exact ⟨r,f',x,by simp [Ac,hl],e,ex,ht x hx,hf'⟩
theorem CW {w:List Nat} {x:Dv} (hx:HK x) (hw:w≠Ij/\w≠cCall/\w≠DF/\w≠Ji/\w≠Bb/\w≠Ba):(T.mk (.leaf w x) []).ok/\(T.mk (.leaf w x) []).sz=1/\(T.mk (.leaf w x) []).dp=1/\(T.mk (.leaf w x) []).enc=.tup [.str w,x]:=by
 refine ⟨?_,by rw [T.sz,GX],by rw [T.dp,Fw],by rw [T.enc,BR]⟩;rw [T.ok];exact ⟨⟨rfl,hw,hx⟩,by simp,by rw [oks];trivial⟩
theorem Iz {c:Bool} {x:Dv} {a b:T} (hx:HK x) (ha:a.ok) (hb:b.ok):(T.mk (.two c x) [a,b]).ok/\(T.mk (.two c x) [a,b]).sz=1+a.sz+b.sz/\(T.mk (.two c x) [a,b]).dp=1+max a.dp b.dp/\(T.mk (.two c x) [a,b]).enc=.tup [.str (if c=true then Ji else DF),x,a.enc,b.enc]:=by
 refine ⟨?_,by rw [T.sz,GX,GX,GX];omega,by rw [T.dp,Fw,Fw,Fw];omega,by rw [T.enc,Ad,Ad,Ad,BR]⟩;rw [T.ok];exact ⟨⟨rfl,hx⟩,by simp,By.mpr fun t ht=>by simp at ht;rcases ht with rfl | rfl<;>assumption⟩
theorem WR {x y:Dv} {n a b:T} (hx:HK x) (hy:HK y) (hn:n.ok) (ha:a.ok) (hb:b.ok):(T.mk (.loop x y) [n,a,b]).ok/\(T.mk (.loop x y) [n,a,b]).sz=1+n.sz+a.sz+b.sz/\(T.mk (.loop x y) [n,a,b]).dp=1+max n.dp (max a.dp b.dp)/\(T.mk (.loop x y) [n,a,b]).enc=.tup [.str Bb,x,n.enc,y,a.enc,b.enc]:=by
 refine ⟨?_,by rw [T.sz,GX,GX,GX,GX];omega,by rw [T.dp,Fw,Fw,Fw,Fw];omega,by rw [T.enc,Ad,Ad,Ad,Ad,BR]⟩;rw [T.ok];exact ⟨⟨rfl,hx,hy⟩,by simp,By.mpr fun t ht=>by simp at ht;rcases ht with rfl | rfl | rfl<;>assumption⟩
theorem GM {c:Bool} {x:Dv} {ts:List T} (hx:HK x) (ht:∀ t∈ts,t.ok) (hl:ts.length<=1000):(T.mk (.many c x) ts).ok/\(T.mk (.many c x) ts).sz=1+GX ts/\(T.mk (.many c x) ts).dp=1+Fw ts/\(T.mk (.many c x) ts).enc=.tup [.str (if c=true then cCall else Ij),x,.tup (Ad ts)]:=by
 refine ⟨?_,by rw [T.sz],by rw [T.dp],by rw [T.enc,BR]⟩;rw [T.ok];exact ⟨hx,hl,By.mpr ht⟩
theorem JO {n:T} {ts:List T} (hn:n.ok) (ht:∀ t∈ts,t.ok) (hl:ts.length<=900):(T.mk .pick (n::ts)).ok/\(T.mk .pick (n::ts)).sz=1+n.sz+GX ts/\(T.mk .pick (n::ts)).dp=1+max n.dp (Fw ts)/\(T.mk .pick (n::ts)).enc=.tup [.str Ba,n.enc,.tup (Ad ts)]:=by
 refine ⟨?_,by rw [T.sz,GX];omega,by rw [T.dp,Fw],by rw [T.enc,Ad,BR]⟩;rw [T.ok];exact ⟨by show 1<=(n::ts).length;simp,by simp;omega,By.mpr fun t h=>(kZ.mp h).elim (fun e=>e▸hn) (ht t)⟩
theorem ZF (room far r:Nat):∃ b,EK (.int (room:Nat)) (.int (far:Nat)) (.int (r:Nat))=some b/\(b=true->2 < room/\0 < far):=by
 unfold EK Gc;simp only [Hq,Bw,dL]
 by_cases h1:(r:Int) < 3
 ·by_cases h2:(2:Int) < room
  ·simp only [h1,h2,decide_true,if_true,dL];exact ⟨_,rfl,fun h=>by have:=of_decide_eq_true h;omega⟩
  ·simp only [h1,h2,decide_true,decide_false,if_true,jr,if_false,dL];exact ⟨_,rfl,fun h=>by cases h⟩
 ·simp only [h1,decide_false,jr,if_false];exact ⟨_,rfl,fun h=>by cases h⟩
theorem Df (a b:Nat) (h:b<=a):Ap (.int (a:Nat)) (.int (b:Nat))=some (.int ((a - b:Nat):Int)):=by
 simp only [Ap,BQ,if_true];congr 2;omega
theorem OX (a b:Nat) (h:0 < b) (h2:b < 1000):EE (.int (a:Nat)) (.int (b:Nat))=some (.int ((a / b:Nat):Int)):=by
 simp only [EE,BQ];rw [decide_eq_true (by omega),decide_eq_true (by omega)];simp
theorem Em {w:Dv} (hw:cW w):∀ (n far room:Nat) (f:Dv),far < n->1<=room->room<=100->Fd f->∃ t f',Al n f w (.int (room:Nat)) (.int (far:Nat))=some (t.enc,f')/\Gd room far t/\Fd f'
  | 0,_,_,_,h,_,_,_=>by omega
  | n+1,far,room,f,hn,h1,h2,hf=>by
    obtain ⟨r,f1,e1,hr,hf1⟩:=AE hf (n:=5) (by decide) (by decide);obtain ⟨b,eb,hb⟩:=ZF room far r;rw [Al];simp only [e1,dL,eb];cases b with
    | true =>
      obtain ⟨q1,q2⟩:=hb rfl;obtain ⟨r2,f2,e2,hr2,hf2⟩:=AE hf1 (n:=((room - 2:Nat):Int)) (by omega) (by omega);obtain ⟨r3,f3,e3,hr3,hf3⟩:=AE hf2 (n:=3) (by decide) (by decide);have el:∃ l:Nat,AB (Dv.lst [.int 1,.int ((room / 2:Nat):Int),.int (1+(r2:Int))]) (.int (r3:Nat))=some (.int (l:Nat))/\1<=l/\l+2<=room:=by
        match r3,hr3 with
        | 0,_=>exact ⟨1,rfl,by omega,by omega⟩
        | 1,_=>exact ⟨room / 2,rfl,by omega,by omega⟩
        | 2,_=>exact ⟨1+r2,by show some (Dv.int (1+(r2:Int)))=_;congr 2,by omega,by omega⟩
        | n+3,h=>omega
      obtain ⟨l,el,hl1,hl2⟩:=el;obtain ⟨far',rfl⟩:∃ far',far=far'+1:=⟨far - 1,by omega⟩;obtain ⟨ta,f4,e4,⟨a1,a2,a3⟩,hf4⟩:=Em hw n far' l f3 (by omega) hl1 (by omega) hf3;obtain ⟨r5,f5,e5,hr5,hf5⟩:=AE hf4 (n:=4) (by decide) (by decide);obtain ⟨c,_,ec⟩:=Yh (l:=[43,42,58,60]) (i:=r5) (by omega) (by simpa using hr5) (by decide);obtain ⟨tb,f6,e6,⟨b1,b2,b3⟩,hf6⟩:=Em hw n far' (room - 1 - l) f5 (by omega) (by omega) (by omega) hf5;obtain ⟨k1,k2,k3,k4⟩:=Iz (c:=true) (x:=.str [c]) (a:=ta) (b:=tb) ⟨rfl,rfl⟩ a1 b1;refine ⟨_,f6,?_,⟨k1,by omega,by omega⟩,hf6⟩;have d1:=OX room 2 (by decide) (by decide);have d2:=Df room 2 (by omega);have d3:=Df (far'+1) 1 (by omega);have d4:=Df room 1 (by omega);have d5:=Df (room - 1) l (by omega);simp only [show ((2:Nat):Int)=2 from rfl,show ((1:Nat):Int)=1 from rfl,la] at d1 d2 d3 d4 d5;simp only [if_true,d1,d2,dL,e2,Bt,e3,el,d3,e4,e5,ec,d4,d5,e6];rw [k4];rfl
    | false =>
      simp only [jr,if_false,Bp,dL]
      by_cases h4:(r:Int)=4
      · obtain ⟨r2,f2,x,l5,e2,ex,hx,hf2⟩:=Ci hf1 hw;obtain ⟨k1,k2,k3,k4⟩:=CW (w:=[99,111,117,110,116]) (Fo hx) (by decide);refine ⟨_,f2,?_,⟨k1,by omega,by omega⟩,hf2⟩;simp only [h4,decide_true,if_true,l5,dL,e2,ex];rw [k4]
      · obtain ⟨r2,f2,e2,_,hf2⟩:=AE hf1 (n:=4) (by decide) (by decide);obtain ⟨r3,f3,e3,_,hf3⟩:=AE hf2 (n:=1000000) (by decide) (by decide);obtain ⟨r4,f4,e4,_,hf4⟩:=AE hf3 (n:=2) (by decide) (by decide);obtain ⟨r5,f5,e5,hr5,hf5⟩:=AE hf4 (n:=3) (by decide) (by decide);have ei:∃ i:Int,AB (Dv.lst [.int (r2:Nat),.int (r3:Nat),.int (999999 - (r4:Int))]) (.int (r5:Nat))=some (.int i):=by
          match r5,hr5 with
          | 0,_=>exact ⟨_,rfl⟩
          | 1,_=>exact ⟨_,rfl⟩
          | 2,_=>exact ⟨_,rfl⟩
          | n+3,h=>omega
        obtain ⟨i,ei⟩:=ei;obtain ⟨k1,k2,k3,k4⟩:=CW (w:=[110,117,109]) (x:=.int i) ⟨rfl,rfl⟩ (by decide);refine ⟨_,f5,?_,⟨k1,by omega,by omega⟩,hf5⟩;have d1:Ap (.int 999999) (.int (r4:Nat))=some (.int (999999 - (r4:Int))):=rfl;simp only [h4,decide_false,jr,if_false,e2,e3,e4,e5,dL,d1,ei];rw [k4]
theorem IQ {w f:Dv} (hw:cW w) (hf:Fd f):∃ (t:T) (f':Dv),FP f w=some (t.enc,f')/\t.ok/\t.sz=1/\t.dp=1/\Fd f':=by
 obtain ⟨r,f1,x,l5,e1,ex,hx,hf1⟩:=Ci hf hw;obtain ⟨r2,f2,e2,hr2,hf2⟩:=AE hf1 (n:=8) (by decide) (by decide);unfold FP;simp only [l5,dL,e1,ex,e2,Bp]
 by_cases h7:(r2:Int)=7
 ·obtain ⟨r3,f3,e3,_,hf3⟩:=AE hf2 (n:=3) (by decide) (by decide);obtain ⟨k1,k2,k3,k4⟩:=CW (w:=[105,110,112,117,116]) (x:=.int (r3:Nat)) ⟨rfl,rfl⟩ (by decide);refine ⟨_,f3,?_,k1,k2,k3,hf3⟩;simp only [h7,decide_true,if_true,e3,dL];rw [k4]
 ·obtain ⟨y1,ey1,hy1⟩:=hx.cut (by decide) none (some 1);obtain ⟨y2,ey2,hy2⟩:=hy1.upper (by decide);obtain ⟨y3,ey3,hy3⟩:=hx.cut (by decide) (some 1) none;obtain ⟨y4,ey4,hy4⟩:=hy2.add hy3 (by decide);obtain ⟨k1,k2,k3,k4⟩:=CW (w:=[110,97,109,101]) (Fo hx) (by decide);obtain ⟨j1,j2,j3,j4⟩:=CW (w:=[102,105,120,101,100]) (Fo hy4) (by decide);obtain ⟨yl,rfl,_⟩:=id hy1;simp only [h7,decide_false,jr,if_false,ey1,dL,fE,ey2,ey3,ey4,HW _ _ (show (0:Int) < 2 by decide)];have h2:(r2:Int) % 2=0\/(r2:Int) % 2=1:=by omega
  rcases h2 with h2 | h2
  ·refine ⟨_,f2,?_,k1,k2,k3,hf2⟩;rw [h2,k4];rfl
  ·refine ⟨_,f2,?_,j1,j2,j3,hf2⟩;rw [h2,j4];rfl
theorem ZG (room far r:Nat):∃ b,JD (.int (room:Nat)) (.int (far:Nat)) (.int (r:Nat))=some b/\(b=false->5<=room/\0 < far):=by
 unfold JD Nk;simp only [Hq,Bw,dL,Bp]
 by_cases h1:(room:Int) < 5
 ·simp only [h1,decide_true,if_true];exact ⟨_,rfl,fun h=>by cases h⟩
 ·simp only [h1,decide_false,jr,if_false]
  by_cases h2:(far:Int) < 1
  ·simp only [h2,decide_true,if_true,dL];exact ⟨_,rfl,fun h=>by cases h⟩
  ·simp only [h2,decide_false,jr,if_false,dL];exact ⟨_,rfl,fun _=>by omega⟩
theorem VI {f:Dv} (hf:Fd f) (r:Nat):∃ b f',JC (.int (r:Nat)) f=some (b,f')/\Fd f':=by
 unfold JC;simp only [Bp,dL];split
 ·obtain ⟨r2,f2,e2,_,hf2⟩:=AE hf (n:=2) (by decide) (by decide);simp only [e2,dL,Bp];exact ⟨_,f2,rfl,hf2⟩
 ·exact ⟨_,f,rfl,hf⟩
theorem OV {P:T->Prop}:∀ {ds:List Dv},(∀ d∈ds,∃ t:T,d=t.enc/\P t)->∃ ts:List T,ds=Ad ts/\∀ t∈ts,P t
 | [],_=>⟨[],rfl,fun _ z=>by cases z⟩
 | d::ds,h=>by
  obtain ⟨t,rfl,ht⟩:=h d kA;obtain ⟨ts,rfl,Mh⟩:=OV fun x hx=>h x (kB _ hx)
  exact ⟨t::ts,rfl,fun x hx=>(kZ.mp hx).elim (fun e=>e▸ht) (Mh x)⟩
theorem Lx {n:Nat}:∀ {ts:List T},(∀ t∈ts,t.sz<=n)->GX ts<=ts.length * n
 | [],_=>by rw [GX];omega
 | t::ts,h=>by
  have h1:=h t kA;have h2:=Lx fun x hx=>h x (kB _ hx)
  rw [GX,kG,Nat.succ_mul];omega
theorem CP {w:Dv} (hw:cW w):∀ (n far room:Nat) (f:Dv),far < n->far<=30->1<=room->room<=100->Fd f->∃ (t:T) (f':Dv),BW n f w (.int (room:Nat)) (.int (far:Nat))=some (t.enc,f')/\Gd room far t/\Fd f'
  | 0,_,_,_,h,_,_,_,_=>by omega
  | n+1,far,room,f,hn,hfar,h1,h2,hf=>by
    obtain ⟨r,f1,e1,hr,hf1⟩:=AE hf (n:=9) (by decide) (by decide);obtain ⟨b,eb,hb⟩:=ZG room far r;rw [BW];simp only [e1,dL,eb];cases b with
    | true =>
      obtain ⟨t,f2,e2,k1,k2,k3,hf2⟩:=IQ hw hf1;exact ⟨t,f2,by simp only [if_true,e2,dL],⟨k1,by omega,by omega⟩,hf2⟩
    | false =>
      obtain ⟨q1,q2⟩:=hb rfl;obtain ⟨far',rfl⟩:∃ far',far=far'+1:=⟨far - 1,by omega⟩;obtain ⟨r2,f2,x,l5,e2,ex,hx,hf2⟩:=Ci hf1 hw;have d1:=Df room 1 (by omega);have d3:=Df (far'+1) 1 (by omega);simp only [show ((1:Nat):Int)=1 from rfl,la] at d1 d3;have dv:∀ k:Nat,0 < k->k < 10->EE (.int ((room - 1:Nat):Int)) (.int (k:Nat))=some (.int (((room - 1) / k:Nat):Int)):=fun k a b=>OX _ k a (by omega)
      have figH:∀ room' f,1<=room'->room'<=100->Fd f->∃ (t:T) (f':Dv),Bq f w (.int (room':Nat)) (.int (far':Nat))=some (t.enc,f')/\Gd room' far' t/\Fd f':=fun room' f a b c=>by
        rw [DW];exact Em hw 40 far' room' f (by omega) a b c
      simp only [jr,if_false,l5,dL,e2,ex,Hq,Bw]
      by_cases c3:(r:Int) < 3
      · have d2:=dv 2 (by decide) (by decide);have hh:1<=(room - 1) / 2:=by omega
        obtain ⟨ta,f3,e3,⟨a1,a2,a3⟩,hf3⟩:=CP hw n far' ((room - 1) / 2) f2 (by omega) (by omega) hh (by omega) hf2;obtain ⟨tb,f4,e4,⟨b1,b2,b3⟩,hf4⟩:=CP hw n far' ((room - 1) / 2) f3 (by omega) (by omega) hh (by omega) hf3;obtain ⟨k1,k2,k3,k4⟩:=Iz (c:=false) (a:=ta) (b:=tb) (Fo hx) a1 b1;refine ⟨_,f4,?_,⟨k1,by omega,by omega⟩,hf4⟩;simp only [show ((2:Nat):Int)=2 from rfl] at d2;simp only [c3,decide_true,if_true,d1,dL,d2,d3,e3,e4];rw [k4];rfl
      · simp only [c3,decide_false,jr,if_false,Bp,dL]
        by_cases c4:(r:Int)=3
        · have d2:=dv 3 (by decide) (by decide);simp only [show ((3:Nat):Int)=3 from rfl] at d2;have hh:1<=(room - 1) / 3:=by omega
          obtain ⟨tn,f3,e3,⟨n1,n2,n3⟩,hf3⟩:=figH ((room - 1) / 3) f2 hh (by omega) hf2;obtain ⟨ta,f4,e4,⟨a1,a2,a3⟩,hf4⟩:=CP hw n far' ((room - 1) / 3) f3 (by omega) (by omega) hh (by omega) hf3;obtain ⟨r5,f5,y,l5',e5,ey,hy,hf5⟩:=Ci hf4 hw;obtain ⟨tb,f6,e6,⟨b1,b2,b3⟩,hf6⟩:=CP hw n far' ((room - 1) / 3) f5 (by omega) (by omega) hh (by omega) hf5;obtain ⟨k1,k2,k3,k4⟩:=WR (n:=tn) (a:=ta) (b:=tb) (Fo hy) (Fo hx) n1 a1 b1;refine ⟨_,f6,?_,⟨k1,by omega,by omega⟩,hf6⟩;simp only [c4,decide_true,if_true,d1,dL,d2,d3,e3,e4,l5,e5,ey,e6];rw [k4]
        · simp only [c4,decide_false,jr,if_false]
          by_cases c5:(r:Int)=4
          · obtain ⟨r3,f3,e3,hr3,hf3⟩:=AE hf2 (n:=3) (by decide) (by decide);have d2:=dv (1+r3+1) (by omega) (by omega);simp only [show (((1+r3+1:Nat):Nat):Int)=1+(r3:Int)+1 by omega] at d2;have hh:1<=(room - 1) / (1+r3+1):=by
              rw [Nat.le_div_iff_mul_le (by omega)];omega
            have hm:(1+r3+1) * ((room - 1) / (1+r3+1))<=room - 1:=Nat.mul_div_le _ _;have hq:(room - 1) / (1+r3+1)<=100:=kM (Nat.div_le_self _ _) (by omega);obtain ⟨tn,f4,e4,⟨n1,n2,n3⟩,hf4⟩:=figH ((room - 1) / (1+r3+1)) f3 hh hq hf3;have er:DJ [.int (1+(r3:Int))]=some ((List.range (1+(r3:Int)).toNat).map fun k=>.int (k:Nat)):=Eb (by omega) (by omega);obtain ⟨ds,f5,e5,hl,hds,hf5⟩:=Fc (JI (BW n) w (.int (room:Nat)) (.int ((far'+1:Nat):Int)) (.int (1+(r3:Int)))) Fd (fun d=>∃ t:T,d=t.enc/\Gd ((room - 1) / (1+r3+1)) far' t) ((List.range (1+(r3:Int)).toNat).map fun k=>.int (k:Nat)) f4 hf4 fun x _ c hc=>by
              obtain ⟨t,f',e,g,hf'⟩:=CP hw n far' ((room - 1) / (1+r3+1)) c (by omega) (by omega) hh hq hc;refine ⟨t.enc,f',?_,⟨t,rfl,g⟩,hf'⟩;unfold JI;simp only [d1,dL,Bt,d2,d3,e]
            obtain ⟨ts,rfl,Mh⟩:=OV hds;rw [AR] at hl;have hl:ts.length=1+r3:=by rw [hl];simp;omega
            obtain ⟨k1,k2,k3,k4⟩:=JO (n:=tn) (ts:=ts) n1 (fun t ht=>(Mh t ht).1) (by omega);have hs:=Lx fun t ht=>(Mh t ht).2.1
            have hdp:Fw ts<=far'+1:=EO.mpr fun t ht=>(Mh t ht).2.2
            refine ⟨_,f5,?_,⟨k1,?_,by omega⟩,hf5⟩
            · simp only [c5,decide_true,if_true,e3,dL,Bt,d1,d2,d3,e4,er];rw [DZ (by simp;omega),e5];simp only [dL,Bl];rw [k4]
            · rw [hl] at hs;rw [k2];have:(1+r3+1) * ((room - 1) / (1+r3+1))=(1+r3) * ((room - 1) / (1+r3+1))+(room - 1) / (1+r3+1):=Nat.succ_mul _ _;omega
          · obtain ⟨r3,f3,e3,hr3,hf3⟩:=AE hf2 (n:=4) (by decide) (by decide);obtain ⟨r4,f4,e4,hr4,hf4⟩:=AE hf3 (n:=2) (by decide) (by decide);have em:∃ m:Nat,AB (Dv.lst [.int (r3:Nat),.int (1+(r4:Int))]) (.int (if decide (5 < (r:Int))=true then 1 else 0))=some (.int (m:Nat))/\m<=3:=by
              by_cases h5:(5:Int) < r
              · simp only [h5,decide_true,if_true];exact ⟨1+r4,by show some (Dv.int (1+(r4:Int)))=_;congr 2,by omega⟩
              · simp only [h5,decide_false,jr,if_false];exact ⟨r3,rfl,by omega⟩
            obtain ⟨m,em,hm3⟩:=em;have er:=ZX m (by omega);have hq:(room - 1) / m<=100:=kM (Nat.div_le_self _ _) (by omega);obtain ⟨c,ec,ts,f5,rfl,hl,Mh,hf5⟩:=DY (GK (BW n) w (.int (room:Nat)) (.int ((far'+1:Nat):Int)) (.int (r:Nat)) (.int (m:Nat))) (fun i c=>∃ (ts:List T) (f':Dv),c=(f',.lst (Ad ts))/\ts.length=i/\(∀ t∈ts,Gd ((room - 1) / m) far' t)/\Fd f') ((List.range m).map fun k=>.int (k:Nat)) 0 (f4,.lst []) ⟨[],f4,rfl,rfl,(fun _ z=>by cases z),hf4⟩ fun i x hx c hc=>by
              obtain ⟨ts,f',rfl,hl,Mh,hf'⟩:=hc;have hi:i < m:=by
                have:=CN hx;simpa using this
              have d2:=dv m (by omega) (by omega);have hh:1<=(room - 1) / m:=by
                rw [Nat.le_div_iff_mul_le (by omega)];omega
              obtain ⟨b,g1,eg,hg1⟩:=VI hf' r;have app:∀ t:T,BB (.lst (Ad ts)) [t.enc]=some (.non,.lst (Ad (ts++[t]))):=fun t=>by
                rw [HU (by rw [AR];omega),Cq,Cq];simp
              have fin:∀ (t:T) (f2:Dv),Gd ((room - 1) / m) far' t->Fd f2->∃ (ts':List T) (f'':Dv),((f2,Dv.lst (Ad (ts++[t]))):Dv×Dv)=(f'',.lst (Ad ts'))/\ts'.length=0+i+1/\(∀ t∈ts',Gd ((room - 1) / m) far' t)/\Fd f'':=fun t f2 g h=>⟨ts++[t],f2,rfl,by simp;omega,fun y hy=>by
                rcases kU.mp hy with hy | hy
                · exact Mh y hy
                · rw [kY] at hy;subst hy;exact g,h⟩
              cases b with
              | true =>
                obtain ⟨t,f2,e,g,hf2⟩:=figH ((room - 1) / m) g1 hh hq hg1;refine ⟨_,?_,fin t f2 g hf2⟩;unfold GK JH;simp only [eg,dL,if_true,Hj,d1,d2,d3,e,app]
              | false =>
                obtain ⟨t,f2,e,g,hf2⟩:=CP hw n far' ((room - 1) / m) g1 (by omega) (by omega) hh hq hg1;refine ⟨_,?_,fin t f2 g hf2⟩;unfold GK JH;simp only [eg,dL,jr,if_false,Hj,d1,d2,d3,e,app]
            have hl:ts.length=m:=by rw [hl];simp
            have hs:=Lx fun t ht=>(Mh t ht).2.1
            have hdp:Fw ts<=far'+1:=EO.mpr fun t ht=>(Mh t ht).2.2
            have hmm:m * ((room - 1) / m)<=room - 1:=Nat.mul_div_le _ _;obtain ⟨k1,k2,k3,k4⟩:=GM (c:=decide ((r:Int)=5)) (ts:=ts) (Fo hx) (fun t ht=>(Mh t ht).1) (by omega);have ek:AB (Dv.lst [.str [100,111],.str [99,97,108,108]]) (.int (if decide ((r:Int)=5)=true then 1 else 0))=some (.str (if decide ((r:Int)=5)=true then cCall else Ij)):=by
              split<;>rfl
            refine ⟨_,f5,?_,⟨k1,by rw [hl] at hs;omega,by omega⟩,hf5⟩;simp only [c5,decide_false,jr,if_false,e3,e4,dL,Bt,Iw,em,er];rw [ec];simp only [dL,ek,Bl];rw [k4]
theorem Iy {w f:Dv} (hw:cW w) (hf:Fd f) {t:T} {s d:Nat} (ok:t.ok) (hs:t.sz<=s) (hd:t.dp<=d) (d1:1<=d):∃ (t':T) (f':Dv),Ck f w t.enc=some (t'.enc,f')/\t'.ok/\t'.sz<=s+3/\t'.dp<=d+1/\Fd f':=by
  obtain ⟨r,f1,x,l5,e1,ex,hx,hf1⟩:=Ci hf hw;obtain ⟨tl,f2,e2,l1,l2,l3,hf2⟩:=IQ hw hf1;obtain ⟨r3,f3,e3,hr3,hf3⟩:=AE hf2 (n:=7) (by decide) (by decide);have fx:=Fo hx;obtain ⟨a1,a2,a3,a4⟩:=GM (c:=false) (ts:=[t]) fx (fun y hy=>by rw [kY] at hy;subst hy;exact ok) (by simp);obtain ⟨b1,b2,b3,b4⟩:=Iz (c:=false) (a:=t) (b:=tl) fx ok l1;obtain ⟨c1,c2,c3,c4⟩:=Iz (c:=false) (a:=tl) (b:=t) fx l1 ok;obtain ⟨n1,n2,n3,n4⟩:=CW (w:=[110,117,109]) (x:=.int 0) ⟨rfl,rfl⟩ (by decide);obtain ⟨m1,m2,m3,m4⟩:=CW (w:=[110,117,109]) (x:=.int 1) ⟨rfl,rfl⟩ (by decide);obtain ⟨p1,p2,p3,p4⟩:=JO (n:=.mk (.leaf [110,117,109] (.int 0)) []) (ts:=[t]) n1 (fun y hy=>by rw [kY] at hy;subst hy;exact ok) (by simp);obtain ⟨q1,q2,q3,q4⟩:=GM (c:=true) (ts:=[t]) fx (fun y hy=>by rw [kY] at hy;subst hy;exact ok) (by simp);obtain ⟨s1,s2,s3,s4⟩:=GM (c:=false) (ts:=[tl,t]) fx (fun y hy=>by simp at hy;rcases hy with rfl | rfl<;>assumption) (by simp);obtain ⟨v1,v2,v3,v4⟩:=JO (n:=.mk (.leaf [110,117,109] (.int 1)) []) (ts:=[tl,t]) m1 (fun y hy=>by simp at hy;rcases hy with rfl | rfl<;>assumption) (by simp);simp only [GX,Fw,Ad] at a2 a3 a4 p2 p3 p4 q2 q3 q4 s2 s3 s4 v2 v3 v4;have ea:Am (Dv.lst [(Dv.tup [(Dv.str [100,111]),x,(Dv.tup [t.enc])]),(Dv.tup [(Dv.str [108,101,116]),x,t.enc,tl.enc]),(Dv.tup [(Dv.str [108,101,116]),x,tl.enc,t.enc]),(Dv.tup [(Dv.str [112,105,99,107]),(Dv.tup [(Dv.str [110,117,109]),(Dv.int 0)]),(Dv.tup [t.enc])])]) (Dv.lst [(Dv.tup [(Dv.str [99,97,108,108]),x,(Dv.tup [t.enc])]),(Dv.tup [(Dv.str [100,111]),x,(Dv.tup [tl.enc,t.enc])]),(Dv.tup [(Dv.str [112,105,99,107]),(Dv.tup [(Dv.str [110,117,109]),(Dv.int 1)]),(Dv.tup [tl.enc,t.enc])])])
      = some (.lst ([T.mk (.many false x) [t],.mk (.two false x) [t,tl],.mk (.two false x) [tl,t],.mk .pick [.mk (.leaf [110,117,109] (.int 0)) [],t],.mk (.many true x) [t],.mk (.many false x) [tl,t],.mk .pick [.mk (.leaf [110,117,109] (.int 1)) [],tl,t]].map T.enc)):=by
    simp only [jz,lZ,a4,b4,c4,p4,q4,s4,v4,n4,m4];rfl
  obtain ⟨y,hy,ey⟩:=Yi (xs:=([T.mk (.many false x) [t],.mk (.two false x) [t,tl],.mk (.two false x) [tl,t],.mk .pick [.mk (.leaf [110,117,109] (.int 0)) [],t],.mk (.many true x) [t],.mk (.many false x) [tl,t],.mk .pick [.mk (.leaf [110,117,109] (.int 1)) [],tl,t]].map T.enc)) (i:=r3) (by omega) (by simp;omega);obtain ⟨t',ht',rfl⟩:=lY.mp hy;have hg:t'.ok/\t'.sz<=s+3/\t'.dp<=d+1:=by
    simp only [kZ,lV,or_false] at ht';rcases ht' with rfl | rfl | rfl | rfl | rfl | rfl | rfl
    · exact ⟨a1,by omega,by omega⟩
    · exact ⟨b1,by omega,by omega⟩
    · exact ⟨c1,by omega,by omega⟩
    · exact ⟨p1,by omega,by omega⟩
    · exact ⟨q1,by omega,by omega⟩
    · exact ⟨s1,by omega,by omega⟩
    · exact ⟨v1,by omega,by omega⟩
  refine ⟨t',f3,?_,hg.1,hg.2.1,hg.2.2,hf3⟩;unfold Ck;simp only [l5,dL,e1,ex,e2];rw [ea];simp only [dL,e3,ey]
theorem IC {f:Dv} (hf:Fd f):∃ (t:T) (f':Dv),FO f=some (t.enc,f')/\t.ok/\t.sz<=100/\t.dp<=20/\Fd f':=by
  obtain ⟨ns,f1,e1,hl,hns,hf1⟩:=MX hf (n:=5) (by decide) (by decide);have hw:cW (.lst ns):=⟨ns,rfl,hl,hns⟩;obtain ⟨r,f2,e2,hr,hf2⟩:=AE hf1 (n:=8) (by decide) (by decide);have e1':Dk f (.int 5)=some (.lst ns,f1):=e1;unfold FO;simp only [e1',dL,e2,Bp]
  by_cases c0:(r:Int)=0
  · obtain ⟨t,f3,e3,⟨k1,k2,k3⟩,hf3⟩:=Em hw 40 15 40 f2 (by decide) (by decide) (by decide) hf2;refine ⟨t,f3,?_,k1,by omega,by omega,hf3⟩;have e3':Bq f2 (.lst ns) (.int 40) (.int 15)=some (t.enc,f3):=by rw [DW];exact e3
    simp only [c0,decide_true,if_true,e3',dL]
  · simp only [c0,decide_false,jr,if_false,Hq,Bw,dL];have anyH:∀ (room far:Nat) f,far<=15->1<=room->room<=100->Fd f->∃ (t:T) (f':Dv),IW f (.lst ns) (.int (room:Nat)) (.int (far:Nat))=some (t.enc,f')/\Gd room far t/\Fd f':=fun room far f a b c d=>by
      rw [LB];exact CP hw 40 far room f (by omega) (by omega) b c d
    by_cases c5:(r:Int) < 5
    · have ei:∃ m:Nat,AB (Dv.lst [.int 9,.int 25,.int 60,.int 60]) (.int ((r:Int) - 1))=some (.int (m:Nat))/\1<=m/\m<=60:=by
        match r,c0,c5 with
        | 0,c0,_=>exact (c0 rfl).elim
        | 1,_,_=>exact ⟨9,rfl,by decide,by decide⟩
        | 2,_,_=>exact ⟨25,rfl,by decide,by decide⟩
        | 3,_,_=>exact ⟨60,rfl,by decide,by decide⟩
        | 4,_,_=>exact ⟨60,rfl,by decide,by decide⟩
        | n+5,_,h=>omega
      obtain ⟨m,ei,hm1,hm2⟩:=ei;obtain ⟨t,f3,e3,⟨k1,k2,k3⟩,hf3⟩:=anyH m 15 f2 (by decide) hm1 (by omega) hf2;refine ⟨t,f3,?_,k1,by omega,by omega,hf3⟩;have e3':IW f2 (.lst ns) (.int (m:Nat)) (.int 15)=some (t.enc,f3):=e3;have es:Ap (.int (r:Nat)) (.int 1)=some (.int ((r:Int) - 1)):=rfl;simp only [c5,decide_true,if_true,es,dL,ei,e3']
    · obtain ⟨a,f3,e3,ha,hf3⟩:=AE hf2 (n:=11) (by decide) (by decide);obtain ⟨t,f4,e4,⟨k1,k2,k3⟩,hf4⟩:=anyH (60 - 4 * a) (15 - a) f3 (by omega) (by omega) (by omega) hf3;have er:=ZX a (by omega);obtain ⟨c,ec,t',f5,rfl,h1,h2,h3,hf5⟩:=DY (Gi (.lst ns)) (fun i c=>∃ (t':T) (f':Dv),c=(f',t'.enc)/\t'.ok/\t'.sz<=60 - 4 * a+3 * i/\t'.dp<=15 - a+1+i/\Fd f') ((List.range a).map fun k=>.int (k:Nat)) 0 (f4,t.enc) ⟨t,f4,rfl,k1,by omega,by omega,hf4⟩ fun i x hx c hc=>by
        obtain ⟨t',f',rfl,h1,h2,h3,hf'⟩:=hc;obtain ⟨t2,f2,e,j1,j2,j3,hf2⟩:=Iy hw hf' h1 h2 h3 (by omega);exact ⟨(f2,t2.enc),by unfold Gi;simp only [e,dL],t2,f2,rfl,j1,by omega,by omega,hf2⟩
      simp only [jv,lQ] at h2 h3;refine ⟨t',f5,?_,h1,by omega,by omega,hf5⟩;have em:DH (.int 4) (.int (a:Nat))=some (.int (4 * (a:Int))):=by simp [DH,show big 4=true by decide]
      have d1:Ap (.int 60) (.int (4 * (a:Int)))=some (.int ((60 - 4 * a:Nat):Int)):=by simp only [Ap,BQ,if_true];congr 2;omega
      have d2:Ap (.int 15) (.int (a:Nat))=some (.int ((15 - a:Nat):Int)):=by simp only [Ap,BQ,if_true];congr 2;omega
      simp only [c5,decide_false,jr,if_false,e3,dL,em,d1,d2,e4,er];rw [ec];rfl
theorem Yy {α:Type} (xs:List α) (m:Nat):cutA xs none (some (m:Int))=xs.take m:=by
 unfold cutA HT.sIx;simp only [List.drop_zero,Nat.sub_zero];rw [if_neg (by omega)];rw [show ((m:Int)).toNat=m by omega];rcases Nat.le_total m xs.length with h | h
 ·rw [Nat.min_eq_left h]
 ·rw [Nat.min_eq_right h,List.take_length,mN h]
theorem NR (p q:List Nat):∃ b,Ea (BL p) (BL q)=some (.bl b)/\(b=true->Li p q):=by
 unfold Ea BL;have em:Iv (.int (p.length:Nat)) (.int (q.length:Nat))=some (.int ((min p.length q.length:Nat):Int)):=by
  simp only [Iv];congr 2;split<;>omega
 simp only [Ac,jv,dL,em,cH,Ey,Yy];rw [<- mZ,<- mZ];have:=JL (p.take (min p.length q.length)) (q.take (min p.length q.length));have c1:=GL (p.take (min p.length q.length));have c2:=GL (q.take (min p.length q.length));unfold BL at this c1 c2;have ne:Qo (.tup ((p.take (min p.length q.length)).map fun k=>Dv.int (k:Nat))) (.tup ((q.take (min p.length q.length)).map fun k=>Dv.int (k:Nat)))=some (!decide (p.take (min p.length q.length)=q.take (min p.length q.length))):=by
  simp only [Jk,c1.1,c2.1,c1.2,this,ku,show (1:Nat)<=150 by decide,decide_true,if_true]
 rw [ne];exact ⟨_,rfl,fun h=>Ud (by simpa using h)⟩
structure Ask (t:T) (d:Dv) (p:List Nat) (u o:T):Prop where
 e:d=.tup [BL p,o.enc]
 a:Du p t=some u
 ok:o.ok
 sz:o.sz<=100
 dp:o.dp<=20
theorem MF {f:Dv} (hf:Fd f) {t:T} (ok:t.ok) (hz:t.sz<=100) (hd:t.dp<=20):∃ f',EZ f t.enc=some (.bl true,f')/\Fd f':=by
 have w1:=Hu ok (by omega) (show t.sz<=10000 by omega);have lw:=BO t [];have r5:=ZX 5 (by decide);obtain ⟨c,ec,ds,f1,rfl,hl,hds,hf1⟩:=DY (FL (.lst ((wk [] t).map Ak))) (fun i c=>∃ (ds:List Dv) (f':Dv),c=(f',.lst ds)/\ds.length=i/\(∀ d∈ds,∃ p u o,Ask t d p u o)/\Fd f') ((List.range 5).map fun k=>.int (k:Nat)) 0 (f,.lst []) ⟨[],f,rfl,rfl,(fun _ z=>by cases z),hf⟩ fun i x hx c hc=>by
  obtain ⟨ds,f',rfl,hl,hds,hf'⟩:=hc;obtain ⟨o,f2,e2,o1,o2,o3,hf2⟩:=IC hf';have hi:i < 5:=by have:=CN hx;simpa using this
  have po:=Dn o1 (by omega) (show o.sz<=10000 by omega);have eo:∃ o':T,FG o.enc=some o'.enc/\o'.ok/\o'.sz<=100/\o'.dp<=20:=by
   obtain ⟨k1,k2,k3,k4⟩:=CW (w:=[110,97,109,101]) (x:=.str [111,116,104,101,114]) ⟨rfl,rfl⟩ (by decide);unfold FG;simp only [po,dL,Ac,Bw];split
   ·exact ⟨_,by rw [k4],k1,by omega,by omega⟩
   ·exact ⟨o,rfl,o1,o2,o3⟩
  obtain ⟨o',eo,q1,q2,q3⟩:=eo;have tz:1<=t.sz:=by cases t with | mk h ts=>rw [T.sz];omega
  obtain ⟨r,f3,e3,hr,hf3⟩:=AE hf2 (n:=((wk [] t).length:Int)) (by omega) (by omega);have hr':r < (wk [] t).length:=by omega
  have e4:AB (.lst ((wk [] t).map Ak)) (.int (r:Nat))=some (Ak (wk [] t)[r]):=by
   show ED _ _=_;rw [atI_nat _ _ (by rw [jv];exact hr'),List.getElem_map]
  have e5:AB (Ak (wk [] t)[r]) (.int 0)=some (BL (wk [] t)[r].1):=rfl;obtain ⟨s,es,ea⟩:=RI t [] _ (mM hr');rw [mD] at es;refine ⟨(f3,.lst (ds++[.tup [BL (wk [] t)[r].1,o'.enc]])),?_,_,f3,rfl,by simp;omega,fun d hd=>?_,hf3⟩
  ·unfold FL;simp only [e2,dL,eo,Hj,Ac,jv,e3,e4,e5];rw [HU (by omega)];rfl
  ·rcases kU.mp hd with hd | hd
   ·exact hds d hd
   ·rw [kY] at hd;exact ⟨_,_,o',hd,by rw [es];exact ea,q1,q2,q3⟩
 have hl:ds.length=5:=by rw [hl];rfl
 refine ⟨f1,?_,hf1⟩;have m1:EC (FJ t.enc (.lst ((wk [] t).map Ak))) ds=some (ds.map fun _=>.bl true):=Co _ (fun _=>.bl true) ds fun d hd'=>by
  obtain ⟨p,u,o,rfl,ha,h1,h2,h3⟩:=hds d hd';unfold FJ;rw [VA];simp only [Pf ok h1 hd h3 hz h2 ha,dL,ez,cond_true]
 have a1:Qr (.lst (ds.map fun _=>Dv.bl true))=some (.bl true):=by
  have:∀ xs:List Dv,Ow (xs.map fun _=>Dv.bl true)=some (xs.map fun _=>true):=fun xs=>by
   induction xs with
   | nil=>rfl
   | cons x xs ih=>rw [jz,Ow,ih];rfl
  simp only [Qr,this,kn];congr 2;simp
 obtain ⟨d0,rest,rfl⟩:∃ d0 rest,ds=d0::rest:=by
  cases ds with
  | nil=>simp at hl
  | cons a b=>exact ⟨a,b,rfl⟩
 obtain ⟨p0,u0,o0,rfl,ha0,b1,b2,b3⟩:=hds _ kA;have f0:AB (.lst (.tup [BL p0,o0.enc]::rest)) (.int 0)=some (.tup [BL p0,o0.enc]):=atI_nat _ 0 (by simp);have i1:AB (.tup [BL p0,o0.enc]) (.int 1)=some o0.enc:=rfl;have fe:GG (FK t.enc (.lst (.tup [BL p0,o0.enc]::rest))) rest ()=some (.go ()):=JZ _ () rest fun d hd'=>by
  obtain ⟨p,u,o,rfl,ha,h1,h2,h3⟩:=hds d (kB _ hd');obtain ⟨b,eb,hb⟩:=NR p0 p;unfold FK;rw [VA];simp only [f0,Bf,dL,eb,ez,cond_true,Yw];cases b with
  | false=>rfl
  | true =>
   have ap:=hb rfl;obtain ⟨x1,x2,x3⟩:=Gp h1 ok ha;obtain ⟨y1,y2,y3⟩:=Gp b1 ok ha0;have r1:=Ax (o:=o) ok ha (by omega);have r2:=Ax (o:=o0) x1 (Jq (o:=o) ap ha0 ha) (by omega);have r3:=Ax (o:=o0) ok ha0 (by omega);have r4:=Ax (o:=o) y1 (Jq (o:=o0) (HS ap) ha ha0) (by omega);have cm:put o p (put o0 p0 t)=put o0 p0 (put o p t):=Lh (HS ap) ha ha0;rw [cm] at r4;obtain ⟨z1,z2,_⟩:=Gp b1 x1 (Jq (o:=o) ap ha0 ha);obtain ⟨v1,v2⟩:=Ds _ z1;simp only [if_true,r1,dL,i1,r2,r3,r4,(Dr v1 (by omega)).2,jr,if_false]
 unfold EZ;simp only [w1,dL];have r5':DJ [.int 5]=some ((List.range 5).map fun k=>.int (k:Nat)):=r5;rw [r5',dL,ec];simp only [dL,items];rw [DZ (by omega),m1];simp only [dL,a1,Yw,nB,jr,if_false,Ey,Mw,items];rw [fe];rfl
theorem So (ns:List Int) (h:ns.length<=63):one VX [Dv.scr ns]=some (Dv.bl true):=by
 show VX (.scr ns)=_;unfold VX;simp only [Ey,dL,Ac,jv,Ll];have hc:=Oa ns none (some 2);have er:∀ i:Int,-1000000000<=i->i<=1000000000->DJ [.int i]=some ((List.range i.toNat).map fun k=>.int (k:Nat)):=fun i a b=>Eb a b
 rw [er _ (by split<;>omega) (by split<;>omega),dL];have fe:∀ L:List Nat,GG (ME (.scr ns)) (L.map fun k=>.int (k:Nat)) ()=some (.go ()):=fun L=>JZ _ () _ fun d hd=>by
  obtain ⟨k,_,rfl⟩:=lY.mp hd;obtain ⟨f,e1,hf⟩:=QN (ns:=ns) (k:=k);obtain ⟨t,f2,e2,k1,k2,k3,hf2⟩:=IC hf;obtain ⟨f3,e3,_⟩:=MF hf2 k1 k2 k3;unfold ME;simp only [e1,dL,e2,e3,Yw,nB,jr,if_false]
 rw [fe];rfl
theorem Qm:Ao "parts_in" (top 1):=NN (by kernel_rfl) (by intros;kernel_rfl)
theorem La:Ao "with_parts" (top 2):=Ld (by kernel_rfl) (by intros;kernel_rfl)
theorem Ho:Ao "placed_parts" (top 3):=NN (by kernel_rfl) (by intros;kernel_rfl)
theorem XO:Ao "parts" (top 4):=NN (by kernel_rfl) (by intros;kernel_rfl)
theorem UV:Ao "places" (top 5):=NN (by kernel_rfl) (by intros;kernel_rfl)
theorem UW:Ao "part_at" (top 6):=Ld (by kernel_rfl) (by intros;kernel_rfl)
theorem NK:Ao "replaced" (top 7):=cD (by kernel_rfl) (by intros;kernel_rfl)
theorem XU:Ao "_law_feed" (top 9):=Ld (by kernel_rfl) (by intros;kernel_rfl)
theorem XS:Ao "_law_take" (top 10):=Ld (by kernel_rfl) (by intros;kernel_rfl)
theorem UY:Ao "_law_names" (top 11):=Ld (by kernel_rfl) (by intros;kernel_rfl)
theorem Qn:Ao "_law_figure" (top 12):=cC (by kernel_rfl) (by intros;kernel_rfl)
theorem XT:Ao "_law_last" (top 13):=Ld (by kernel_rfl) (by intros;kernel_rfl)
theorem cB:Ao "_law_any" (top 14):=cC (by kernel_rfl) (by intros;kernel_rfl)
theorem NL:Ao "_law_wrapped" (top 15):=cD (by kernel_rfl) (by intros;kernel_rfl)
theorem XR:Ao "_law_tree" (top 16):=NN (by kernel_rfl) (by intros;kernel_rfl)
theorem NM:Ao "_law_right_in" (top 17):=NN (by kernel_rfl) (by intros;kernel_rfl)
theorem XQ:Ao "_law_walk" (top 18):=NN (by kernel_rfl) (by intros;kernel_rfl)
theorem cA:Ao "_law_put" (top 19):=cD (by kernel_rfl) (by intros;kernel_rfl)
theorem UZ:Ao "_law_apart" (top 20):=Ld (by kernel_rfl) (by intros;kernel_rfl)
theorem Lb:Ao "_law_one_right" (top 21):=cC (by kernel_rfl) (by intros;kernel_rfl)
theorem UX:Ao "_law_right" (top 22):=Ld (by kernel_rfl) (by intros;kernel_rfl)
theorem all_mk {l:W.OpenLaw} {w:World} {K:W.Frag} {h:Heap} {mg:Str->Option Value} {fa:Addr} (X:K.In h) (G:h.Ns mainGlobals mg) (hfa:mg "law" = some (.ref fa)) (hz:md.bl.all (MW K)=true)
    (hsPartsIn:GF K "parts_in" (top 1))
    (hsWithParts:GF K "with_parts" (top 2))
    (hsPlacedParts:GF K "placed_parts" (top 3))
    (hsParts:GF K "parts" (top 4))
    (hsPlaces:GF K "places" (top 5))
    (hsPartAt:GF K "part_at" (top 6))
    (hsReplaced:GF K "replaced" (top 7))
    (hsLFeed:GF K "_law_feed" (top 9))
    (hsLTake:GF K "_law_take" (top 10))
    (hsLNames:GF K "_law_names" (top 11))
    (hsLFigure:GF K "_law_figure" (top 12))
    (hsLLast:GF K "_law_last" (top 13))
    (hsLAny:GF K "_law_any" (top 14))
    (hsLWrapped:GF K "_law_wrapped" (top 15))
    (hsLTree:GF K "_law_tree" (top 16))
    (hsLRightIn:GF K "_law_right_in" (top 17))
    (hsLWalk:GF K "_law_walk" (top 18))
    (hsLPut:GF K "_law_put" (top 19))
    (hsLApart:GF K "_law_apart" (top 20))
    (hsLOneRight:GF K "_law_one_right" (top 21))
    (hsLRight:GF K "_law_right" (top 22))
    (hsLaw:GF K "law" (top 23))
    : ∃ fd:FuncData,(∀ (s:Shared) (v:Value),BindsTo s fd ⟨[v],[]⟩ [("_law_script", v)])/\∀ base:Heap,K.In base->base.Ns mainGlobals mg->FnOk l.prog w K mg base Qw 142 fa fd ["_law_script"] (Nl K):=by
  have e:=hfa.symm.trans (W.mg_of X G hsLaw.1);cases e;have b:Bs md K mg:=gF X G rfl hz
  refine ⟨W.fnOf "law" "law" (As (top 23)) (Ab (top 23)) (AH (top 23)) .none .none .none (Zq K (QO K "law")) none (Wt K (QO K "law")) .none,fun s v=>.of_eq rfl,fun base _ _=>?_⟩
  have f0:Fs l.prog w K mg base 0 gS:=Fs.nil;have f1:=f0.def (nb:=false) b QW QP hsPartsIn (W.mg_of X G hsPartsIn.1) Qm;have f2:=f1.def (nb:=false) b LS LH hsWithParts (W.mg_of X G hsWithParts.1) La;have f3:=f2.def (nb:=false) b Hl Hk hsPlacedParts (W.mg_of X G hsPlacedParts.1) Ho;have f4:=f3.def (nb:=false) b Wm Wb hsParts (W.mg_of X G hsParts.1) XO;have f5:=f4.def (nb:=false) b Ts Te hsPlaces (W.mg_of X G hsPlaces.1) UV;have f6:=f5.def (nb:=false) b Tt Tf hsPartAt (W.mg_of X G hsPartAt.1) UW;have f7:=f6.def (nb:=false) b Mx Mo hsReplaced (W.mg_of X G hsReplaced.1) NK;have f8:=f7.def (nb:=false) b Wr Wg hsLFeed (W.mg_of X G hsLFeed.1) XU;have f9:=f8.def (nb:=false) b Wp We hsLTake (W.mg_of X G hsLTake.1) XS;have f10:=f9.def (nb:=false) b Tv Ti hsLNames (W.mg_of X G hsLNames.1) UY;have f11:Fs l.prog w K mg base 51 TK:=by unfold TK;rw [DW];exact f10.defR (io:=[0]) (F:=fun n=>El (Al n)) b (by kernel_rfl) (fun ds=>YL ds) QX QQ hsLFigure (W.mg_of X G hsLFigure.1) Qn 40
  have f12:=f11.def (nb:=false) b Wq Wf hsLLast (W.mg_of X G hsLLast.1) XT;have f13:Fs l.prog w K mg base 93 TJ:=by unfold TJ;rw [LB];exact f12.defR (io:=[0]) (F:=fun n=>El (BW n)) b (by kernel_rfl) (fun ds=>YL ds) bR bM hsLAny (W.mg_of X G hsLAny.1) cB 40
  have f14:=f13.def (nb:=false) b Mz Mp hsLWrapped (W.mg_of X G hsLWrapped.1) NL;have f15:=f14.def (nb:=false) b Wo Wd hsLTree (W.mg_of X G hsLTree.1) XR;have f16:=f15.def (nb:=false) b NA Mq hsLRightIn (W.mg_of X G hsLRightIn.1) NM;have f17:=f16.def (nb:=false) b Wn Wc hsLWalk (W.mg_of X G hsLWalk.1) XQ;have f18:Fs l.prog w K mg base 138 TH:=by unfold TH;rw [LA];exact f17.defR (io:=[]) (F:=fun n=>GV (CH n)) b (by kernel_rfl) (fun ds=>cj ds) bQ bL hsLPut (W.mg_of X G hsLPut.1) cA 40
  have f19:=f18.def (nb:=true) b Tw Tj hsLApart (W.mg_of X G hsLApart.1) UZ;have f20:=f19.def (nb:=true) b LU LI hsLOneRight (W.mg_of X G hsLOneRight.1) Lb;have f21:=f20.def (nb:=true) b Tu Th hsLRight (W.mg_of X G hsLRight.1) UX
  have hp:AC (top 23)=(["_law_script"]:List Str):=by kernel_rfl
  have r:=aa (ps:=AC (top 23)) (nb:=true) (by rw [hp];rfl) (Mv b f21 fg fY (Mi hsLaw)) So;rw [hp] at r;exact r
theorem walk {l:W.OpenLaw} {q:Program} {loose:List Str} {XP:(Str->Option Value)->Heap->Prop} {YP:World->Heap->Prop} {d:DefRec} {K:Params->W.Frag} (hn:l.most=some 63) (hdf:d.params.defaults=[])
    (hY:∀ (w:World) (h:Heap),YP w h->(K w.params).In h)
    (F:∀ (w:World) (mg:Str->Option Value) (fa:Addr) (h:Heap),(K w.params).In h->h.Ns mainGlobals mg->mg d.name=some (.ref fa) ->
      ∃ fd:FuncData,(∀ (s:Shared) (u:Value),BindsTo s fd ⟨[u],[]⟩ [("_law_script", u)])/\∀ base:Heap,(K w.params).In base->base.Ns mainGlobals mg->FnOk l.prog w (K w.params) mg base Qw 142 fa fd ["_law_script"] (Nl (K w.params))) :
    W.WalkO q loose XP YP l.row.toRowW d [] (fun f vs=>PySem.call f vs):=
  L2.walk_of (n:=63) (k:=142) (x := "_law_script") (CX:=fun _=>Qw) (sp:=fun w=>Nl (K w.params)) hn (by decide) hdf ⟨rfl,by decide,by decide,rfl⟩ hY F (fun _ _ a ns hl hO hS=>⟨a,ns,rfl,hS,hl,hO,fun _=>rfl⟩) fun _ _ _ _ _ z=>z
abbrev fO (i:Nat) (x:Str) (pm:Value) (cd:Addr):Obj:=⟨.type "function", none,.func (W.fnOf x x (As (top i)) (Ab (top i)) (AH (top i)) .none .none .none pm none (.ref cd) .none),#[]⟩
noncomputable def KP (P:Params):W.Frag:=[
(3,⟨.type "dict", none,.dict #[ke P "__name__" 165 (.str "law_shapefree_k05_whole_replaced" 250),ke P "__doc__" 166 .none,ke P "__package__" 167 .none,ke P "__loader__" 168 (.builtin "__main__.__loader__#opaque"),ke P "__spec__" 169 .none,ke P "__annotations__" 170 (.ref 6),ke P "__builtins__" 171 (.ref 4),ke P "__file__" 173 (.str "/claim/cut.py" 172),ke P "__cached__" 174 .none,ke P "parts_in" 196 (.ref 21),ke P "with_parts" 205 (.ref 28),ke P "placed_parts" 211 (.ref 33),ke P "parts" 217 (.ref 38),ke P "places" 223 (.ref 43),ke P "part_at" 234 (.ref 50),ke P "replaced" 249 (.ref 57),ke P "_law_feed" 261 (.ref 64),ke P "_law_take" 271 (.ref 71),ke P "_law_names" 277 (.ref 76),ke P "_law_figure" 290 (.ref 83),ke P "_law_last" 300 (.ref 90),ke P "_law_any" 306 (.ref 95),ke P "_law_wrapped" 318 (.ref 102),ke P "_law_tree" 330 (.ref 109),ke P "_law_right_in" 338 (.ref 116),ke P "_law_walk" 351 (.ref 123),ke P "_law_put" 362 (.ref 130),ke P "_law_apart" 371 (.ref 137),ke P "_law_one_right" 377 (.ref 142),ke P "_law_right" 383 (.ref 147),ke P "law" 392 (.ref 154)] 31,#[]⟩),
(21,fO 1 "parts_in" (.str "shapefree.terms" 187) 20),
(20,cO "parts_in" 189 2 1 3 15 16 .none (.ref 17) (.ref 18) 19 194),
(28,fO 2 "with_parts" (.str "shapefree.terms" 187) 27),
(27,cO "with_parts" 197 13 2 3 22 23 .none (.ref 24) (.ref 25) 26 203),
(33,fO 3 "placed_parts" (.str "shapefree.terms" 187) 32),
(32,cO "placed_parts" 206 24 1 3 29 30 .none .none .none 31 209),
(38,fO 4 "parts" (.str "shapefree.terms" 187) 37),
(37,cO "parts" 212 33 1 3 34 35 .none .none .none 36 215),
(43,fO 5 "places" (.str "shapefree.terms" 187) 42),
(42,cO "places" 218 35 1 3 39 40 .none .none .none 41 221),
(50,fO 6 "part_at" (.str "shapefree.terms" 187) 49),
(49,cO "part_at" 224 37 2 3 44 45 .none (.ref 46) (.ref 47) 48 232),
(57,fO 7 "replaced" (.str "shapefree.terms" 187) 56),
(56,cO "replaced" 235 45 3 3 51 52 .none (.ref 53) (.ref 54) 55 247),
(64,fO 9 "_law_feed" (.str "law_shapefree_k05_whole_replaced" 250) 63),
(63,cO "_law_feed" 252 58 2 3 58 59 .none (.ref 60) (.ref 61) 62 259),
(71,fO 10 "_law_take" (.str "law_shapefree_k05_whole_replaced" 250) 70),
(70,cO "_law_take" 262 68 2 3 65 66 .none (.ref 67) (.ref 68) 69 269),
(76,fO 11 "_law_names" (.str "law_shapefree_k05_whole_replaced" 250) 75),
(75,cO "_law_names" 272 76 2 3 72 73 .none .none .none 74 275),
(83,fO 12 "_law_figure" (.str "law_shapefree_k05_whole_replaced" 250) 82),
(82,cO "_law_figure" 278 91 4 3 77 78 .none (.ref 79) (.ref 80) 81 288),
(90,fO 13 "_law_last" (.str "law_shapefree_k05_whole_replaced" 250) 89),
(89,cO "_law_last" 291 100 2 3 84 85 .none (.ref 86) (.ref 87) 88 298),
(95,fO 14 "_law_any" (.str "law_shapefree_k05_whole_replaced" 250) 94),
(94,cO "_law_any" 301 106 4 3 91 92 .none .none .none 93 304),
(102,fO 15 "_law_wrapped" (.str "law_shapefree_k05_whole_replaced" 250) 101),
(101,cO "_law_wrapped" 307 132 3 3 96 97 .none (.ref 98) (.ref 99) 100 316),
(109,fO 16 "_law_tree" (.str "law_shapefree_k05_whole_replaced" 250) 108),
(108,cO "_law_tree" 319 138 1 3 103 104 .none (.ref 105) (.ref 106) 107 328),
(116,fO 17 "_law_right_in" (.str "law_shapefree_k05_whole_replaced" 250) 115),
(115,cO "_law_right_in" 331 150 1 3 110 111 .none (.ref 112) (.ref 113) 114 336),
(123,fO 18 "_law_walk" (.str "law_shapefree_k05_whole_replaced" 250) 122),
(122,cO "_law_walk" 339 161 1 3 117 118 .none (.ref 119) (.ref 120) 121 349),
(130,fO 19 "_law_put" (.str "law_shapefree_k05_whole_replaced" 250) 129),
(129,cO "_law_put" 352 171 3 3 124 125 .none (.ref 126) (.ref 127) 128 360),
(137,fO 20 "_law_apart" (.str "law_shapefree_k05_whole_replaced" 250) 136),
(136,cO "_law_apart" 363 184 2 3 131 132 .none (.ref 133) (.ref 134) 135 369),
(142,fO 21 "_law_one_right" (.str "law_shapefree_k05_whole_replaced" 250) 141),
(141,cO "_law_one_right" 372 187 4 3 138 139 .none .none .none 140 375),
(147,fO 22 "_law_right" (.str "law_shapefree_k05_whole_replaced" 250) 146),
(146,cO "_law_right" 378 201 2 3 143 144 .none .none .none 145 381),
(154,fO 23 "law" (.str "law_shapefree_k05_whole_replaced" 250) 153),
(153,cO "law" 384 217 1 3 148 149 .none (.ref 150) (.ref 151) 152 390)]
def dLaw:DefRec:=⟨"law", As (top 23),Ab (top 23),AH (top 23),bP (top 23)⟩
theorem top_left:Xm PySem.Challenge.rw_shapefree_k05_whole_replaced 24 [3,21,20,28,27,33,32,38,37,43,42,50,49,57,56,64,63,71,70,76,75,83,82,90,89,95,94,102,101,109,108,116,115,123,122,130,129,137,136,142,141,147,146,154,153] KP 1506:=fun w=>by kernel_rfl
theorem top_said:PySem.Challenge.rw_shapefree_k05_whole_replaced.wellSaid=true:=by decide +kernel
end My
set_option maxHeartbeats 1000000
set_option maxHeartbeats 1000000
set_option maxHeartbeats 1000000
set_option maxHeartbeats 1000000
set_option maxHeartbeats 1000000
set_option maxHeartbeats 1000000
set_option maxHeartbeats 1000000
set_option maxHeartbeats 1000000
open PySem PySem.W PyProof.Rows
set_option maxRecDepth 100000 in
set_option maxHeartbeats 0 in
theorem PySem.Challenge.cw_shapefree_k05_whole_replaced_holds : PySem.Challenge.rw_shapefree_k05_whole_replaced.Holds := by
  refine L2.mk_law (d:=My.dLaw) My.top_said My.top_left (fun P=>by kernel_rfl) (by kernel_rfl) (by kernel_rfl) (by kernel_rfl) (by kernel_rfl) (by kernel_rfl) (by decide +kernel) ⟨rfl,rfl,rfl,rfl,rfl,by decide +kernel⟩ (by w_witness2) ?call
  refine My.walk (l:=PySem.Challenge.rw_shapefree_k05_whole_replaced) (d:=My.dLaw) (K:=My.KP) rfl (by kernel_rfl) (fun w h Y=>Y) fun w mg fa h KX G hmg=>My.all_mk KX G hmg (by kernel_rfl) (by and_intros<;>kernel_rfl) (by and_intros<;>kernel_rfl) (by and_intros<;>kernel_rfl) (by and_intros<;>kernel_rfl) (by and_intros<;>kernel_rfl) (by and_intros<;>kernel_rfl) (by and_intros<;>kernel_rfl) (by and_intros<;>kernel_rfl) (by and_intros<;>kernel_rfl) (by and_intros<;>kernel_rfl) (by and_intros<;>kernel_rfl) (by and_intros<;>kernel_rfl) (by and_intros<;>kernel_rfl) (by and_intros<;>kernel_rfl) (by and_intros<;>kernel_rfl) (by and_intros<;>kernel_rfl) (by and_intros<;>kernel_rfl) (by and_intros<;>kernel_rfl) (by and_intros<;>kernel_rfl) (by and_intros<;>kernel_rfl) (by and_intros<;>kernel_rfl) (by and_intros<;>kernel_rfl)
