import PyProof.Rows.All
import Wide.All
import OpenK.AllK
import Wide.FinOn
import PyProof.ZipIter
import PyProof.EnumMake
import PyProof.Draws
import KE.KRevIter
import PyProof.ListMulRoad
import PyProof.Rows.SortShell
import PyProof.StrLawsIn
import Lean
import PyProof.EqAt
import PyProof.EqKinds
import PyProof.TupleCall
import PySem.Challenge.RW_shapefree_k23_what_forms_tell
noncomputable section
set_option Elab.async false
set_option linter.all false
set_option maxRecDepth 100000
set_option maxHeartbeats 4000000
namespace L2
open PySem PySem.Spec PyProof.Rows
noncomputable abbrev Av:=Sum Int Str
def Hb:Av->Value->Bool
 | .inl k,v=>Value.isInt k v
 | .inr x,v=>Value.isStrOf x v
def fA (w:World):Av->Int
 | .inl k=>hashInt k
 | .inr x=>hashStr w x
theorem Ad:∀ {k:Av} {v:Value},Hb k v=true->(∃ i t,k=Sum.inl i/\v=Value.int i t)\/(∃ x t,k=Sum.inr x/\v=Value.str x t)
 | .inl i,v,h=>by
  obtain ⟨t,e⟩:=Value.isInt_shape (k:=i) (v:=v) h;exact .inl ⟨i,t,rfl,e⟩
 | .inr x,v,h=>by
  obtain ⟨t,e⟩:=Value.isStrOf_shape (x:=x) (v:=v) h;exact .inr ⟨x,t,rfl,e⟩
theorem Nq (i:Int) (t:Tok):Hb (.inl i) (.int i t)=true:=by simp [Hb,Value.isInt]
theorem Np (x:Str) (t:Tok):Hb (.inr x) (.str x t)=true:=by simp [Hb,Value.isStrOf]
theorem Yr (a b:Int):decide ((Sum.inl a:Av)=Sum.inl b)=(a == b):=by
 by_cases e:a=b
 ·subst e;simp
 ·have h:¬ (Sum.inl a:Av)=Sum.inl b:=fun q=>e (Sum.inl.inj q)
  rw [decide_eq_false h];exact (beq_eq_false_iff_ne.mpr e).symm
theorem Yo (a b:Str):decide ((Sum.inr a:Av)=Sum.inr b)=decide (a=b):=by
 by_cases e:a=b
 ·subst e;simp
 ·have h:¬ (Sum.inr a:Av)=Sum.inr b:=fun q=>e (Sum.inr.inj q)
  rw [decide_eq_false h,decide_eq_false e]
theorem Yq (a:Int) (b:Str):decide ((Sum.inl a:Av)=Sum.inr b)=false:=decide_eq_false (fun q=>nomatch q)
theorem Yp (a:Str) (b:Int):decide ((Sum.inr a:Av)=Sum.inl b)=false:=decide_eq_false (fun q=>nomatch q)
def Aw (prog:Program) (w:World):PySem.KeyKind prog w Av where
 is:=Hb
 hash:=fA w
 inj:=fun v a b ha hb=>by
  rcases Ad ha with ⟨i,t,rfl,rfl⟩ | ⟨x,t,rfl,rfl⟩
  ·rcases Ad hb with ⟨j,u,rfl,e⟩ | ⟨y,u,rfl,e⟩
   ·injection e with e1 _;rw [e1]
   ·exact nomatch e
  ·rcases Ad hb with ⟨j,u,rfl,e⟩ | ⟨y,u,rfl,e⟩
   ·exact nomatch e
   ·injection e with e1 _;rw [e1]
 byValue:=fun k v h=>by
  rcases Ad h with ⟨i,t,rfl,rfl⟩ | ⟨x,t,rfl,rfl⟩<;>rfl
 pyHash:=fun hv h=>by
  rcases Ad hv with ⟨i,t,rfl,rfl⟩ | ⟨x,t,rfl,rfl⟩
  ·exact wpAny_pyHash_int h
  ·exact wpAny_pyHash_str h
 eqBool:=fun hu hv h=>by
  rcases Ad hu with ⟨i,t,rfl,rfl⟩ | ⟨x,t,rfl,rfl⟩
  ·rcases Ad hv with ⟨j,u,rfl,rfl⟩ | ⟨y,u,rfl,rfl⟩
   ·rw [Yr] at h;exact wpAny_eqBool_int h
   ·rw [Yq] at h;exact SeqAt.EqAt.int_str i t y u _ _ _ _ h
  ·rcases Ad hv with ⟨j,u,rfl,rfl⟩ | ⟨y,u,rfl,rfl⟩
   ·rw [Yp] at h;exact SeqAt.EqAt.str_int x t j u _ _ _ _ h
   ·rw [Yo] at h;exact wpAny_eqBool_str h
 «strs»:=fun k x t v h=>by
  rcases Ad h with ⟨i,u,rfl,e⟩ | ⟨y,u,rfl,e⟩
  ·exact nomatch e
  ·injection e with e1 _
   subst e1;cases v<;>rfl
theorem Ji (prog:Program) (w:World) (i:Int) (t:Tok):(Aw prog w).is (.inl i) (.int i t)=true:=Nq i t
theorem Jh (prog:Program) (w:World) (x:Str) (t:Tok):(Aw prog w).is (.inr x) (.str x t)=true:=Np x t
inductive V where
 | non | bl (b:Bool) | int (i:Int) | str (x:Str) | byt (b:Array UInt8) | flt (b:UInt64) | ref (a:Addr) | ty (n:String)
 deriving DecidableEq
def RelV:V->Value->Prop
 | .non,u=>u=Value.none
 | .bl b,u=>u=Value.bool b
 | .int i,u=>∃ t,u=Value.int i t
 | .str x,u=>∃ t,u=Value.str x t
 | .byt b,u=>∃ t,u=Value.bytes b t
 | .flt b,u=>∃ t,u=Value.float b t
 | .ref a,u=>u=Value.ref a
 | .ty n,u=>u=Value.type n
abbrev AE:List V->List Value->Prop:=Paired RelV
theorem AE.length {xs:List V} {us:List Value} (r:AE xs us):xs.length=us.length:=Paired.length r
theorem AE.get:∀ {xs:List V} {us:List Value} {i:Nat} {x:V},AE xs us->xs[i]?=some x->∃ u,us[i]?=some u/\RelV x u
 | _,_,_,_,.nil,e=>by simp at e
 | _,_,0,_,.cons r _,e=>by simp at e;subst e;exact ⟨_,rfl,r⟩
 | _,_,i+1,x,.cons _ t,e=>by
  obtain ⟨u,h1,h2⟩:=AE.get (i:=i) (x:=x) t (by simpa using e);exact ⟨u,by simpa using h1,h2⟩
theorem AE.set {x:V} {u:Value} (r:RelV x u):∀ {xs:List V} {us:List Value} (i:Nat),AE xs us->AE (xs.set i x) (us.set i u)
 | _,_,_,.nil=>.nil
 | _,_,0,.cons _ t=>.cons r t
 | _,_,i+1,.cons q t=>.cons q (AE.set r i t)
theorem AE.append:∀ {xs ys:List V} {us ws:List Value},AE xs us->AE ys ws->AE (xs++ys) (us++ws)
 | _,_,_,_,.nil,s=>s
 | _,_,_,_,.cons r t,s=>.cons r (AE.append t s)
theorem AE.take:∀ {xs:List V} {us:List Value} (n:Nat),AE xs us->AE (xs.take n) (us.take n)
 | _,_,0,_=>.nil
 | _,_,_+1,.nil=>.nil
 | _,_,n+1,.cons r t=>.cons r (AE.take n t)
theorem AE.drop:∀ {xs:List V} {us:List Value} (n:Nat),AE xs us->AE (xs.drop n) (us.drop n)
 | _,_,0,r=>r
 | _,_,_+1,.nil=>.nil
 | _,_,n+1,.cons _ t=>AE.drop n t
def Gq:Option V->Option Value->Prop
 | some v,some u=>RelV v u
 | none,none=>True
 | _,_=>False
def KV {κ:Type}:List (κ×V)->List (κ×Value)->Prop:=Paired fun (p:κ×V) (q:κ×Value)=>p.1=q.1/\RelV p.2 q.2
def kV:Av->V
 | .inl i=>.int i
 | .inr x=>.str x
inductive HO where
 | lst (xs:List V)
 | tup (xs:List V)
 | dK (kvs:List (Av×V)) | dT (kvs:List (List Av×V))
 | set (S:Int->Bool) (n:Nat)
 | ins (C dx:Addr) (fs:List (Str×V))
 | own (x:Addr)
 | xd (fs:List (Str×V))
 | met (f x:Addr)
 | rng (lo hi:Int)
 | frz (o:Obj) (u:HO)
 | tbl (ps:Array Value)
 | ext (φ:Heap->Prop)
noncomputable abbrev Hp:=Addr->Option HO
def upd (H:Hp) (a:Addr) (o:HO):Hp:=fun b=>if b=a then some o else H b
theorem BL {H:Hp} {a:Addr} {o:HO}:upd H a o a=some o:=by unfold upd;rw [if_pos rfl]
theorem AQ {H:Hp} {a b:Addr} {o:HO} (h:b≠a):upd H a o b=H b:=by unfold upd;rw [if_neg h]
theorem bw {H:Hp} {a b:Addr} {o u:HO} (h:H a=some o) (h':H b=some u) (d:o≠u):a≠b:=by
 intro e;subst e;rw [h] at h';exact d (Option.some.inj h')
theorem BX {H:Hp} {a b:Addr} {o:HO} (h:H a=some o) (h':H b=none):a≠b:=by
 intro e;subst e;rw [h] at h';cases h'
def HC (h:Heap) (a:Addr) (items:Array Value):Prop:=∃ o,h.get? a=some o/\o.cls=.type "tuple" /\ o.dict=none/\∃ n,o.data=.seq items n
theorem HC.tup {h:Heap} {a:Addr} {items:Array Value} (x:HC h a items):IsTup h a items:=let ⟨o,e,c,_,d⟩:=x;⟨o,e,c,d⟩
theorem HC.new (h:Heap) (items:Array Value):HC (h.push { cls:=.type "tuple", data:=.seq items }) h.objs.size items:=⟨_,Heap.get?_push_size _ rfl,rfl,rfl,_,rfl⟩
section
variable (P:Program) (w:World)
def Ah (H:Hp) (h:Heap) (a:Addr):HO->Prop
  | .lst xs=>xs.length<=sizeLine/\∃ (its:List Value) (n:Nat),AE xs its/\h.get? a=some { cls:=.type "list", data:=.seq its.toArray n }
  | .tup xs=>xs.length<=sizeLine/\∃ its:List Value,AE xs its/\HC h a its.toArray
  | .dK kvs=>kvs.length<=sizeLine/\(a == sysModules)=false/\∃ vs,KV kvs vs/\h.DictOf (Aw P w) a vs
  | .dT kvs=>kvs.length<=sizeLine/\(a == sysModules)=false/\∃ xs:List (List Av×Addr×Value),
      Paired (fun (p:List Av×V) (q:List Av×Addr×Value)=>p.1=q.1/\H q.2.1=some (.tup (p.1.map kV))/\RelV p.2 q.2.2) kvs xs /\
      ∃ o es ep,h.get? a=some o/\o.ExactDict/\o.data=.dict es ep/\es.toList=xs.map (entryOfKey (tupleKind (Aw P w)))/\(xs.map (·.1)).Nodup
  | .set S n=>h.SetOf (intKind P w) a S n
  | .ins C dx fs=>H dx=some (.own a)/\fs.length<=1000/\dx≠a/\h.get? a=some (W.instObj C dx) /\
      ∃ mA,h.Ns1 dx mA/\(∀ f,Gq (fs.lookup f) (mA f))/\PySem.Within mA (fs.map (·.1))
  | .own _=>∃ o,h.get? a=some o
  | .xd fs=>∃ mA,h.Ns1 a mA/\∀ f,Gq (fs.lookup f) (mA f)
  | .rng lo hi=>∃ t u v,h.get? a=some { cls:=.type "range", data:=.fields #[.int lo t,.int hi u,.int 1 v] }
  | .frz o u=>h.get? a=some o/\Ah H h a u
  | .tbl ps=>h.get? a=some { cls:=.none,data:=.fields ps }
  | .met f x=>h.get? a=some (W.methodObj (.ref f) (.ref x))
  | .ext φ=>φ h/\(∃ o,h.get? a=some o)/\∀ h1 h2:Heap,φ h1->(∀ o,h1.get? a=some o->h2.get? a=some o)->φ h2
def Dm (H:Hp) (h:Heap):Prop:=∀ a o,H a=some o->Ah P w H h a o
end
section
variable {P:Program} {w:World} {H H':Hp} {h h':Heap} {a:Addr} {o:HO}
theorem Ah.lt (x:Ah P w H h a o):a < h.objs.size:=by
 cases o with
 | lst xs=>obtain ⟨_,_,_,_,e⟩:=x;exact Heap.lt_size e
 | tup xs=>obtain ⟨_,_,_,p⟩:=x;exact p.tup.lt
 | dK kvs=>obtain ⟨_,_,_,_,o,_,_,e,_⟩:=x;exact Heap.lt_size e
 | dT kvs=>obtain ⟨_,_,_,_,o,_,_,e,_⟩:=x;exact Heap.lt_size e
 | set S n=>obtain ⟨o,_,_,_,e,_⟩:=x;exact Heap.lt_size e
 | ins C dx fs=>obtain ⟨_,_,_,e,_⟩:=x;exact Heap.lt_size e
 | own y=>obtain ⟨_,e⟩:=x;exact Heap.lt_size e
 | xd fs=>obtain ⟨_,⟨_,_,_,e,_⟩,_⟩:=x;exact Heap.lt_size e
 | rng lo hi=>obtain ⟨_,_,_,e⟩:=x;exact Heap.lt_size e
 | frz ob u=>obtain ⟨e,_⟩:=x;exact Heap.lt_size e
 | tbl ps=>exact Heap.lt_size (show h.get? a=some _ from x)
 | met f y=>exact Heap.lt_size (show h.get? a=some _ from x)
 | ext φ=>obtain ⟨_,⟨_,e⟩,_⟩:=x;exact Heap.lt_size e
theorem Paired.mapP {α β:Type} {F G:α->β->Prop}:∀ {l₁:List α} {l₂:List β},Paired F l₁ l₂->(∀ a b,F a b->G a b)->Paired G l₁ l₂
 | _,_,.nil,_=>.nil
 | _,_,.cons r t,f=>.cons (f _ _ r) (Paired.mapP t f)
theorem Ah.stay (x:Ah P w H h a o) (k:∀ b u,(b=a\/H b=some (.own a))->h.get? b=some u->h'.get? b=some u)
    (ho:∀ b,H b=some (.own a)->H' b=some (.own a)) (ht:∀ b xs,H b=some (.tup xs)->H' b=some (.tup xs)):Ah P w H' h' a o:=by
  induction o with
  | lst xs=>obtain ⟨z,its,n,r,e⟩:=x;exact ⟨z,its,n,r,k _ _ (.inl rfl) e⟩
  | tup xs=>obtain ⟨z,its,r,ob,e,c⟩:=x;exact ⟨z,its,r,ob,k _ _ (.inl rfl) e,c⟩
  | dK kvs=>obtain ⟨z,y,vs,r,ob,es,ep,e,c⟩:=x;exact ⟨z,y,vs,r,ob,es,ep,k _ _ (.inl rfl) e,c⟩
  | dT kvs =>
    obtain ⟨z,y,xs,r,ob,es,ep,e,c⟩:=x;exact ⟨z,y,xs,Paired.mapP r fun p q z=>⟨z.1,ht _ _ z.2.1,z.2.2⟩,ob,es,ep,k _ _ (.inl rfl) e,c⟩
  | set S n=>obtain ⟨ob,es,ep,t,e,c⟩:=x;exact ⟨ob,es,ep,t,k _ _ (.inl rfl) e,c⟩
  | ins C dx fs =>
    obtain ⟨d,z,ne,e,mA,⟨od,es,ep,e2,c⟩,r⟩:=x;exact ⟨ho _ d,z,ne,k _ _ (.inl rfl) e,mA,⟨od,es,ep,k _ _ (.inr d) e2,c⟩,r⟩
  | own y=>obtain ⟨ob,e⟩:=x;exact ⟨ob,k _ _ (.inl rfl) e⟩
  | xd fs=>obtain ⟨mA,⟨od,es,ep,e,c⟩,r⟩:=x;exact ⟨mA,⟨od,es,ep,k _ _ (.inl rfl) e,c⟩,r⟩
  | rng lo hi=>obtain ⟨t,u,v,e⟩:=x;exact ⟨t,u,v,k _ _ (.inl rfl) e⟩
  | frz ob u ih=>obtain ⟨e,q⟩:=x;exact ⟨k _ _ (.inl rfl) e,ih q⟩
  | tbl ps =>
    have e:h.get? a=some { cls:=.none,data:=.fields ps }:=x;show h'.get? a=some { cls:=.none,data:=.fields ps };exact k a _ (.inl rfl) e
  | met f y =>
    have e:h.get? a=some (W.methodObj (.ref f) (.ref y)):=x;show h'.get? a=some (W.methodObj (.ref f) (.ref y));exact k a _ (.inl rfl) e
  | ext φ=>obtain ⟨p,⟨o,e⟩,st⟩:=x;exact ⟨st _ _ p fun o q=>k _ _ (.inl rfl) q,⟨o,k _ _ (.inl rfl) e⟩,st⟩
theorem Dm.lt (x:Dm P w H h) (e:H a=some o):a < h.objs.size:=(x a o e).lt
theorem Dm.fresh (x:Dm P w H h) (e:h.objs.size<=a):H a=none:=by
 cases q:H a with
 | none=>rfl
 | some u=>exact absurd (Nat.lt_of_lt_of_le (x.lt q) e) (Nat.lt_irrefl _)
theorem Dm.kept (x:Dm P w H h) (k:∀ b u,h.get? b=some u->h'.get? b=some u):Dm P w H h':=fun a o e =>
 (x a o e).stay (fun b u _ q=>k b u q) (fun _ q=>q) fun _ _ q=>q
theorem Dm.laid (x:Dm P w H h) (k:∀ b u,h.get? b=some u->h'.get? b=some u) (hp:h.objs.size<=a) (new:Ah P w (upd H a o) h' a o):Dm P w (upd H a o) h':=fun b u e=>by
 have hn:=x.fresh hp
 by_cases hb:b=a
 ·subst hb;rw [BL] at e;cases e;exact new
 ·rw [AQ hb] at e;exact (x b u e).stay (fun c v _ q=>k c v q) (fun c q=>by rw [AQ (BX q hn)];exact q) fun c xs q=>by rw [AQ (BX q hn)];exact q
end
def Rd (H:Hp) (a:Addr) (u:HO):Prop:=H a=some u\/∃ o,H a=some (.frz o u)
theorem Rd.ok {P:Program} {w:World} {H:Hp} {h:Heap} {a:Addr} {u:HO} (r:Rd H a u) (x:Dm P w H h):Ah P w H h a u:=by
 rcases r with r | ⟨o,r⟩
 ·exact x a u r
 ·obtain ⟨_,q⟩:=x a _ r;exact q
def aI:Option HO->Prop
 | some (.lst _)=>True
 | some (.dK _)=>True
 | some (.dT _)=>True
 | some (.set _ _)=>True
 | some (.ins _ _ _)=>True
 | some (.ext _)=>True
 | _=>False
section
variable {P:Program} {w:World} {H:Hp} {h h':Heap} {x e:Addr} {o':HO}
theorem Dm.write (ok:Dm P w H h) (mu:aI (H x)) (he:e=x\/H e=some (.own x)) (k:∀ b u,b≠e->h.get? b=some u->h'.get? b=some u) (heo:∃ u,h'.get? e=some u)
    (new:Ah P w (upd H x o') h' x o'):Dm P w (upd H x o') h':=fun b u q=>by
  have nown:∀ c y,H c=some (.own y)->c≠x:=fun c y r z=>by subst z;rw [r] at mu;exact mu
  have ntup:∀ c xs,H c=some (.tup xs)->c≠x:=fun c xs r z=>by subst z;rw [r] at mu;exact mu
  by_cases hb:b=x
  · subst hb;rw [BL] at q;cases q;exact new
  · rw [AQ hb] at q
    by_cases hbe:b=e
    · have q':H b=some (.own x):=by
        rcases he with z | z
        · exact absurd (hbe.trans z) hb
        · rw [hbe];exact z
      rw [q] at q';cases q';obtain ⟨v,hv⟩:=heo;exact ⟨v,by rw [hbe];exact hv⟩
    · refine (ok b u q).stay (fun c v hc r=>k c v ?_ r) (fun c r=>by rw [AQ (nown c b r)];exact r) fun c xs r=>by rw [AQ (ntup c xs r)];exact r
      rcases hc with rfl | hc
      · exact hbe
      · rintro rfl;rcases he with z | z
        · exact nown c b hc z
        · rw [hc] at z;cases z;exact hb rfl
end
structure Un (fs ex:List Addr) (H H':Hp) (h h':Heap):Prop where
 keep:∀ b o,h.get? b=some o->H b=none->b∉fs->b∉ex->h'.get? b=some o
 slot:∀ b o,h.get? b=some o->H b=none->b∈fs->b∉ex->∃ sl,h'.get? b=some { o with slots:=sl }
 free:∀ b o,h.get? b=some o->H b=none->b∉ex->H' b=none
 there:∀ b o,h.get? b=some o->b∉ex->∃ o',h'.get? b=some o'
 tups:∀ b xs,H b=some (.tup xs)->H' b=some (.tup xs)
 frzs:∀ b o u,H b=some (.frz o u)->H' b=some (.frz o u)
 tbls:∀ b ps,H b=some (.tbl ps)->∃ more,H' b=some (.tbl (ps++more))
section
variable {fs fs' ex ex':List Addr} {H H1 H2:Hp} {h h1 h2 h':Heap} {a x e:Addr} {o:HO}
theorem Un.any (u:Un fs ex H H1 h h1) {b:Addr} {ob:Obj} (q:h.get? b=some ob) (n:H b=none) (hx:b∉ex):∃ sl,h1.get? b=some { ob with slots:=sl }:=by
 by_cases hb:b∈fs
 ·exact u.slot b ob q n hb hx
 ·exact ⟨ob.slots,u.keep b ob q n hb hx⟩
theorem Un.kept (k:∀ b u,h.get? b=some u->h'.get? b=some u):Un fs ex H H h h':=
 ⟨fun b ob q _ _ _=>k b ob q,fun b ob q _ _ _=>⟨ob.slots,k b ob q⟩,fun _ _ _ n _=>n,fun b ob q _=>⟨ob,k b ob q⟩,fun _ _ q=>q,fun _ _ _ q=>q,fun _ ps q=>⟨#[],by rw [q];simp⟩⟩
theorem Un.refl:Un fs ex H H h h:=Un.kept fun _ _ q=>q
theorem Un.laid (k:∀ b u,h.get? b=some u->h'.get? b=some u) (hp:h.objs.size<=a) (hn:H a=none):Un fs ex H (upd H a o) h h' where
 keep:=fun b u q _ _ _=>k b u q
 slot:=fun b u q _ _ _=>⟨u.slots,k b u q⟩
 free:=fun b u q n _=>by rw [AQ (Nat.ne_of_lt (Nat.lt_of_lt_of_le (Heap.lt_size q) hp))];exact n
 there:=fun b u q _=>⟨u,k b u q⟩
 tups:=fun b xs q=>by rw [AQ (BX q hn)];exact q
 frzs:=fun b u xs q=>by rw [AQ (BX q hn)];exact q
 tbls:=fun b ps q=>⟨#[],by rw [AQ (BX q hn),q];simp⟩
theorem Un.write (mu:aI (H x)) (he:e=x\/H e=some (.own x)) (k:∀ b u,b≠e->h.get? b=some u->h'.get? b=some u) (heo:∃ u,h'.get? e=some u):Un fs ex H (upd H x o) h h':=by
 have hx:∀ b,H b=none->b≠x:=fun b n z=>by subst z;rw [n] at mu;exact mu
 have hb:∀ b,H b=none->b≠e:=fun b n z=>by
  subst z;rcases he with r | r
  ·exact hx b n r
  ·rw [n] at r;cases r
 have hm:∀ b u,H b=some u->¬ aI (some u)->b≠x:=fun b u q nm z=>by subst z;rw [q] at mu;exact nm mu
 refine ⟨fun b u q n _ _=>k b u (hb b n) q,fun b u q n _ _=>⟨u.slots,k b u (hb b n) q⟩,fun b u q n _=>by rw [AQ (hx b n)];exact n,fun b u q _=>?_,
  fun b xs q=>by rw [AQ (hm b _ q fun z=>z)];exact q,fun b u xs q=>by rw [AQ (hm b _ q fun z=>z)];exact q,fun b ps q=>⟨#[],by rw [AQ (hm b _ q fun z=>z),q];simp⟩⟩
 by_cases hbe:b=e
 ·subst hbe;exact heo
 ·exact ⟨u,k b u hbe q⟩
end
def dc (h:Heap) (H:Hp):List Addr:=(List.range h.objs.size).filter fun a=>(H a).isSome
def Ie (h:Heap) (H:Hp):Heap:=W.hideAll h (dc h H)
theorem Nw (h:Heap) (H:Hp):(Ie h H).objs.size=h.objs.size:=W.hideAll_size _ _
theorem Qv {h:Heap} {H:Hp} {b:Addr} {o:Obj} (e:h.get? b=some o) (n:H b=none):(Ie h H).get? b=some o:=
 W.hideAll_get _ e fun hm=>by
  have q:(H b).isSome=true:=(List.mem_filter.mp hm).2;rw [n] at q;simp at q
theorem UU {h:Heap} {H:Hp} {b:Addr} {o:Obj} (e:(Ie h H).get? b=some o):h.get? b=some o/\H b=none:=by
 have e':h.get? b=some o:=W.of_hideAll (dc h H) e;refine ⟨e',?_⟩;cases q:H b with
 | none=>rfl
 | some x =>
  have hm:b∈dc h H:=List.mem_filter.mpr ⟨List.mem_range.mpr (Heap.lt_size e'),by simp [q]⟩;have z:(Ie h H).get? b=none:=W.hideAll_none (dc h H) hm;rw [z] at e;cases e
noncomputable def Vs (g h:Heap) (L:Addr):List (Addr×Obj):=(List.range h.objs.size).filterMap fun a=>if a=L\/(g.get? a).isSome=true then none else (h.get? a).map fun o=>(a,o)
def rest (g h:Heap) (L d:Addr):List (Addr×Obj):=(Vs g h L).filter fun p=>decide (p.1≠d)
structure Mod (K:W.Frag) (mg:Str->Option Value) (base:Heap):Prop where
 kin:K.In base
 glob:base.Ns mainGlobals mg
 blt:∃ mb,base.Ns builtinsNs mb/\∀ x:Str,x ≠ "__name__" -> mb x=bootBuiltins x
 nolimit:base.NoLimit
structure Cx where
 prog:Program
 w:World
 K:W.Frag
 mg:Str->Option Value
 base:Heap
 A:Around
 N:List Str
 s₀:Shared
 H₀:Hp
 env:Env
 outer:List Env
 stack:List Env
 ex:List Addr
 fn:Str->Bool
 calm:Bool
 pn:List (Addr×Obj)
 xe:Value->Shared->Prop
noncomputable def Mb (l:List Env):List Addr:=l.filterMap (·.frame)
abbrev Cx.fs (X:Cx):List Addr:=Mb X.outer
def aG (sc:Scope) (x:Str):Prop:=sc.names.lookup x=some .local\/sc.names.lookup x=some .cell\/sc.names.lookup x=some .free
def Loc (sc:Scope) (x:Str):Prop:=sc.names.lookup x=some .local\/sc.names.lookup x=some .cell
def Look (env:Env) (h:Heap) (m:Str->Option Value) (x:Str) (u:Value):Prop:=
 (env.kindOf x=some .local/\m x=some u)\/((env.kindOf x=some .cell\/env.kindOf x=some .free)/\∃ c,env.cells.lookup x=some c/\h.IsCell c (some u))
structure Cx.Ok (X:Cx):Prop where
 mod:Mod X.K X.mg X.base
 kind:X.env.scope.kind=.function
 glob:X.env.globals=mainGlobals
 blt:X.env.builtins=builtinsNs
 above:X.s₀.heap.objs.size<=X.env.locals
 inj:∀ x y c,X.env.cells.lookup x=some c->X.env.cells.lookup y=some c->x=y
 has:∀ x,(X.env.kindOf x=some .cell\/X.env.kindOf x=some .free)->∃ c,X.env.cells.lookup x=some c
 cab:∀ x c,X.fn x=true->X.env.cells.lookup x=some c->X.s₀.heap.objs.size<=c
 hd:X.calm=true->X.A.handled=none
 frames:X.A.frames=some X.stack
 stk:X.stack=X.outer\/(X.stack=X.env::X.outer/\X.env.frame=some X.env.locals)
 exf:∀ b∈X.ex,b≠X.env.locals/\∀ x c,X.env.cells.lookup x=some c->c≠b
 bs:∀ b o,X.base.get? b=some o->X.s₀.heap.get? b=some o/\X.H₀ b=none
 bsz:X.base.objs.size<=X.s₀.heap.objs.size
 noex:∀ b o,X.base.get? b=some o->b∉X.ex
 exfs:∀ b∈X.ex,b∉X.fs
 funs:X.s₀.heap.FunFrames X.base X.outer
 frf:∀ b∈X.fs,X.H₀ b=none
structure Inv (X:Cx) (pins:List (Addr×Obj)) (σ:List (Option V)) (H:Hp) (s:Shared):Prop where
 ok:X.Ok
 os:s.os=X.s₀.os
 bare:AllBare s.gens
 base:Un X.fs X.ex X.H₀ H X.s₀.heap s.heap
 loc:∃ m,s.heap.Ns X.env.locals m/\∀ (i:Nat) (x:Str) (v:V),X.N[i]?=some x->σ[i]?=some (some v)->aG X.env.scope x->∃ u,RelV v u/\Look X.env s.heap m x u
 cell:∀ x c,X.env.cells.lookup x=some c->∃ v,s.heap.IsCell c v
 free:H X.env.locals=none
 freeC:∀ x c,X.env.cells.lookup x=some c->H c=none
 pin:∀ p∈X.pn++pins,s.heap.get? p.1=some p.2/\H p.1=none/\p.1≠X.env.locals/\p.1∉X.fs/\∀ v,p.2.data≠.cell v
 hok:Dm X.prog X.w H s.heap
 len:σ.length=X.N.length
section
variable {X:Cx} {pins:List (Addr×Obj)} {σ:List (Option V)} {H H':Hp} {s:Shared} {h':Heap}
theorem Cx.Ok.nofr (ok:X.Ok) {b:Addr} {o:Obj} (e:X.base.get? b=some o):b∉X.fs:=fun hb=>by
 have:=(ok.funs.mem hb).1;rw [e] at this;cases this
theorem Inv.bs (I:Inv X pins σ H s):∀ b o,X.base.get? b=some o->s.heap.get? b=some o/\H b=none:=fun b o e =>
 ⟨I.base.keep b o (I.ok.bs b o e).1 (I.ok.bs b o e).2 (I.ok.nofr e) (I.ok.noex b o e),I.base.free b o (I.ok.bs b o e).1 (I.ok.bs b o e).2 (I.ok.noex b o e)⟩
theorem Inv.bk (I:Inv X pins σ H s):∀ b o,X.base.get? b=some o->s.heap.get? b=some o:=fun b o e=>(I.bs b o e).1
theorem Inv.mod (I:Inv X pins σ H s):Mod X.K X.mg X.base:=I.ok.mod
theorem Inv.kIn (I:Inv X pins σ H s):X.K.In s.heap:=I.ok.mod.kin.keeps I.bk
theorem Inv.fr (I:Inv X pins σ H s):∃ m,Fr X.base X.env.locals s.heap m:=
 let ⟨m,hn,_⟩:=I.loc
 ⟨m,hn,I.bk,Nat.le_trans I.ok.bsz I.ok.above⟩
theorem Inv.lt (I:Inv X pins σ H s):X.env.locals < s.heap.objs.size:=let ⟨_,hn,_⟩:=I.loc;hn.lt
theorem Inv.sz (I:Inv X pins σ H s):X.s₀.heap.objs.size<=s.heap.objs.size:=Nat.le_trans I.ok.above (Nat.le_of_lt I.lt)
theorem Inv.nofs (I:Inv X pins σ H s) {a:Addr} (h:s.heap.objs.size<=a):a∉X.fs:=fun hb=>by
 obtain ⟨_,o,ho,_⟩:=I.ok.funs.mem hb;exact absurd (Nat.lt_of_lt_of_le (Heap.lt_size ho) (Nat.le_trans I.sz h)) (Nat.lt_irrefl _)
theorem Inv.cne (I:Inv X pins σ H s):∀ x c,X.env.cells.lookup x=some c->c≠X.env.locals:=fun x c e z=>by
 obtain ⟨v,o,ho,hd⟩:=I.cell x c e;obtain ⟨m,⟨o',es,ep,ho',hd',_⟩,_⟩:=I.loc;rw [z,ho'] at ho;cases ho;rw [hd'] at hd;cases hd
theorem Inv.funs (I:Inv X pins σ H s):s.heap.FunFrames X.base X.outer:=by
 have all:∀ (l:List Env),(∀ b∈Mb l,b∈X.fs)->X.s₀.heap.FunFrames X.base l->s.heap.FunFrames X.base l:=by
  intro l
  induction l with
  | nil=>intro _ _;trivial
  | cons env r ih =>
   intro hs hl;obtain ⟨hk,⟨L,o,hf,hn,ho,hd⟩,hr⟩:=hl;have hL:L∈X.fs:=hs L (by unfold Mb;rw [List.filterMap_cons,hf];exact List.mem_cons_self);obtain ⟨sl,e⟩:=I.base.slot L o ho (I.ok.frf L hL) hL fun z=>I.ok.exfs L z hL
   exact ⟨hk,⟨L,_,hf,hn,e,hd⟩,ih (fun b hb=>hs b (by unfold Mb;rw [List.filterMap_cons,hf];exact List.mem_cons_of_mem _ hb)) hr⟩
 exact all X.outer (fun _ hb=>hb) I.ok.funs
theorem Inv.stack (I:Inv X pins σ H s):s.heap.FunFrames X.base X.stack:=by
 rcases I.ok.stk with e | ⟨e,hf⟩
 ·rw [e];exact I.funs
 ·rw [e];obtain ⟨m,hn,_⟩:=I.loc;refine .cons (by rw [I.ok.kind];decide) hf hn ?_ I.funs;exact Heap.get?_none_of_le (Nat.le_trans I.ok.bsz I.ok.above)
theorem Inv.stkSub (I:Inv X pins σ H s):∀ b∈Mb X.stack,b∈X.env.locals::X.fs:=fun b hb=>by
 rcases I.ok.stk with e | ⟨e,hf⟩
 ·rw [e] at hb;exact List.mem_cons_of_mem _ hb
 ·rw [e] at hb;unfold Mb at hb;rw [List.filterMap_cons,hf] at hb;exact hb
theorem Inv.stkFree (I:Inv X pins σ H s):∀ b∈Mb X.stack,H b=none:=fun b hb=>by
 rcases List.mem_cons.mp (I.stkSub b hb) with e | hb
 ·rw [e];exact I.free
 ·obtain ⟨_,o,ho,_⟩:=I.ok.funs.mem hb;exact I.base.free b o ho (I.ok.frf b hb) fun z=>I.ok.exfs b z hb
theorem Inv.step {g':Array GenState} {t':Nat} {d':Drawn} {ch:List Addr} (I:Inv X pins σ H s)
    (hch:∀ b∈ch,(b∈X.ex\/X.s₀.heap.objs.size<=b)/\b≠X.env.locals/\(∀ x c,X.env.cells.lookup x=some c->c≠b)/\∀ p∈X.pn++pins,p.1≠b)
    (keep:∀ b o,b≠X.env.locals->b∉X.fs->b∉ch->s.heap.get? b=some o->H b=none->h'.get? b=some o)
    (slot:∀ b o,b≠X.env.locals->b∈X.fs->b∉ch->s.heap.get? b=some o->H b=none->∃ sl,h'.get? b=some { o with slots:=sl }) (free:∀ b o,b∉ch->s.heap.get? b=some o->H b=none->H' b=none)
    (there:∀ b o,b∉ch->s.heap.get? b=some o->∃ o',h'.get? b=some o')
    (tups:∀ b xs,H b=some (.tup xs)->H' b=some (.tup xs)) (frzs:∀ b o u,H b=some (.frz o u)->H' b=some (.frz o u)) (tbls:∀ b ps,H b=some (.tbl ps)->∃ more,H' b=some (.tbl (ps++more)))
    (ns:∀ m,s.heap.Ns X.env.locals m->h'.Ns X.env.locals m) (hok:Dm X.prog X.w H' h') (hg:AllBare g') :
    Inv X pins σ H' { s with heap:=h',gens:=g',drawn:=d',toks:=t' }:=by
  have neL:∀ b o,X.s₀.heap.get? b=some o->b≠X.env.locals:=fun b o e=>Nat.ne_of_lt (Nat.lt_of_lt_of_le (Heap.lt_size e) I.ok.above)
  have neC:∀ b o,X.s₀.heap.get? b=some o->b∉X.ex->b∉ch:=fun b o e hx hb=>by
    rcases (hch b hb).1 with z | z
    · exact hx z
    · exact absurd (Nat.lt_of_lt_of_le (Heap.lt_size e) z) (Nat.lt_irrefl _)
  have cellK:∀ x c,X.env.cells.lookup x=some c->∀ v,s.heap.IsCell c v->h'.IsCell c v:=fun x c e v ⟨o,ho,hd⟩=>by
    have nch:c∉ch:=fun z=>(hch c z).2.2.1 x c e rfl
    by_cases hc:c∈X.fs
    · obtain ⟨sl,q⟩:=slot c o (I.cne x c e) hc nch ho (I.freeC x c e);exact ⟨_,q,hd⟩
    · exact ⟨o,keep c o (I.cne x c e) hc nch ho (I.freeC x c e),hd⟩
  refine ⟨I.ok,I.os,hg,⟨fun b o e n hb hx=>?_,fun b o e n hb hx=>?_,fun b o e n hx=>?_,fun b o e hx=>?_,fun b xs e=>tups b xs (I.base.tups b xs e),fun b o xs e=>frzs b o xs (I.base.frzs b o xs e),fun b ps e=>?_⟩,?_,fun x c e=>?_,?_,fun x c e=>?_,fun p hp=>?_,hok,I.len⟩
  · exact keep b o (neL b o e) hb (neC b o e hx) (I.base.keep b o e n hb hx) (I.base.free b o e n hx)
  · obtain ⟨sl,e1⟩:=I.base.slot b o e n hb hx;obtain ⟨sl',e2⟩:=slot b _ (neL b o e) hb (neC b o e hx) e1 (I.base.free b o e n hx);exact ⟨sl',e2⟩
  · obtain ⟨o',e1⟩:=I.base.there b o e hx;exact free b o' (neC b o e hx) e1 (I.base.free b o e n hx)
  · obtain ⟨o',e1⟩:=I.base.there b o e hx;exact there b o' (neC b o e hx) e1
  · obtain ⟨m1,e1⟩:=I.base.tbls b ps e;obtain ⟨m2,e2⟩:=tbls b _ e1;exact ⟨m1++m2,by rw [e2,Array.append_assoc]⟩
  · obtain ⟨m,hn,hl⟩:=I.loc;refine ⟨m,ns m hn,fun i x v e1 e2 e3=>?_⟩;obtain ⟨u,r,l⟩:=hl i x v e1 e2 e3;refine ⟨u,r,?_⟩;rcases l with l | ⟨k,c,e,z⟩
    · exact .inl l
    · exact .inr ⟨k,c,e,cellK x c e _ z⟩
  · obtain ⟨v,z⟩:=I.cell x c e;exact ⟨v,cellK x c e v z⟩
  · obtain ⟨m,⟨o,_,_,ho,_⟩,_⟩:=I.loc;exact free _ o (fun z=>(hch _ z).2.1 rfl) ho I.free
  · obtain ⟨v,o,ho,hd⟩:=I.cell x c e;exact free c o (fun z=>(hch c z).2.2.1 x c e rfl) ho (I.freeC x c e)
  · obtain ⟨e,n,ne,nf,d⟩:=I.pin p hp;have nch:p.1∉ch:=fun z=>(hch p.1 z).2.2.2 p hp rfl
    exact ⟨keep p.1 p.2 ne nf nch e n,free p.1 p.2 nch e n,ne,nf,d⟩
theorem Inv.un {t':Nat} (I:Inv X pins σ H s) (u:Un X.fs [] H H' s.heap h') (hok:Dm X.prog X.w H' h'):Inv X pins σ H' { s with heap:=h',toks:=t' }:=by
 obtain ⟨m,⟨o,es,ep,ho,r⟩,_⟩:=id I.loc;obtain ⟨sl,hL⟩:=u.any ho I.free (by simp);exact I.step (g':=s.gens) (d':=s.drawn) (ch:=[]) (fun _ z=>nomatch z) (fun b o _ hb _ e n=>u.keep b o e n hb (by simp)) (fun b o _ hb _ e n=>u.slot b o e n hb (by simp)) (fun b o _ e n=>u.free b o e n (by simp)) (fun b o _ e=>u.there b o e (by simp)) u.tups u.frzs u.tbls (fun m' hm=>by
  obtain ⟨o',es',ep',ho',r'⟩:=hm;rw [ho] at ho';cases ho';exact ⟨_,es',ep',hL,r'⟩) hok I.bare
theorem Inv.call {g':Array GenState} {t':Nat} {d':Drawn} {ch:List Addr} (I:Inv X pins σ H s) (u:Un (Mb X.stack) ch H H' s.heap h') (hok:Dm X.prog X.w H' h') (hg:AllBare g')
    (hch:∀ b∈ch,(b∈X.ex\/X.s₀.heap.objs.size<=b)/\b≠X.env.locals/\(∀ x c,X.env.cells.lookup x=some c->c≠b)/\∀ p∈X.pn++pins,p.1≠b) :
    Inv X pins σ H' { s with heap:=h',gens:=g',drawn:=d',toks:=t' }:=by
  obtain ⟨m,⟨o,es,ep,ho,r⟩,_⟩:=id I.loc;obtain ⟨sl,hL⟩:=u.any ho I.free fun z=>(hch _ z).2.1 rfl
  exact I.step (ch:=ch) hch (fun b o hL hb hc e n=>u.keep b o e n (fun z=>(List.mem_cons.mp (I.stkSub b z)).elim hL hb) hc) (fun b o _ _ hc e n=>u.any e n hc) (fun b o hc e n=>u.free b o e n hc) (fun b o hc e=>u.there b o e hc) u.tups u.frzs u.tbls (fun m' hm=>by
    obtain ⟨o',es',ep',ho',r'⟩:=hm;rw [ho] at ho';cases ho';exact ⟨_,es',ep',hL,r'⟩) hok hg
theorem Inv.turned {t':Nat} {it:Addr} (I:Inv X pins σ H s) (k:∀ b o,b≠it->s.heap.get? b=some o->h'.get? b=some o) (hn:H it=none) (hL:it≠X.env.locals)
    (h1:it∈X.ex\/X.s₀.heap.objs.size<=it) (h2:∀ x c,X.env.cells.lookup x=some c->c≠it) (h3:∀ p∈X.pn++pins,p.1≠it):Inv X pins σ H { s with heap:=h',toks:=t' }:=by
  have nit:∀ b u,H b=some u->b≠it:=fun b u e z=>by rw [z,hn] at e;cases e
  refine I.step (g':=s.gens) (d':=s.drawn) (ch:=[it]) (fun b hb=>?_) (fun b o _ _ hc e _=>k b o (fun z=>hc (by simp [z])) e) (fun b o _ _ hc e _=>⟨o.slots,k b o (fun z=>hc (by simp [z])) e⟩) (fun _ _ _ _ n=>n)
    (fun b o hc e=>⟨o,k b o (fun z=>hc (by simp [z])) e⟩) (fun _ _ e=>e) (fun _ _ _ e=>e) (fun b ps e=>⟨#[],by rw [e];simp⟩) (fun m hm=>?_) (fun b u e=>?_) I.bare
  · have e:b=it:=by simpa using hb
    subst e;exact ⟨h1,hL,h2,h3⟩
  · obtain ⟨o,es,ep,ho,r⟩:=hm;exact ⟨o,es,ep,k _ o (Ne.symm hL) ho,r⟩
  · refine (I.hok b u e).stay (fun c v hc q=>k c v ?_ q) (fun _ q=>q) fun _ _ q=>q
    rcases hc with z | z
    · rw [z];exact nit b u e
    · exact nit c _ z
theorem Inv.tok (I:Inv X pins σ H s) (t:Nat):Inv X pins σ H { s with toks:=t }:=I.un (h':=s.heap) (t':=t) Un.refl I.hok
theorem Inv.kept {t':Nat} (I:Inv X pins σ H s) (k:∀ b u,s.heap.get? b=some u->h'.get? b=some u):Inv X pins σ H { s with heap:=h',toks:=t' }:=I.un (Un.kept k) (I.hok.kept k)
theorem Inv.laid {a:Addr} {o:HO} {t':Nat} (I:Inv X pins σ H s) (k:∀ b u,s.heap.get? b=some u->h'.get? b=some u) (hp:s.heap.objs.size<=a) (new:Ah X.prog X.w (upd H a o) h' a o) :
    Inv X pins σ (upd H a o) { s with heap:=h',toks:=t' }:=I.un (Un.laid k hp (I.hok.fresh hp)) (I.hok.laid k hp new)
theorem Inv.write {x e:Addr} {o:HO} {t':Nat} (I:Inv X pins σ H s) (mu:aI (H x)) (he:e=x\/H e=some (.own x)) (k:∀ b u,b≠e->s.heap.get? b=some u->h'.get? b=some u) (heo:∃ u,h'.get? e=some u)
    (new:Ah X.prog X.w (upd H x o) h' x o):Inv X pins σ (upd H x o) { s with heap:=h',toks:=t' }:=I.un (Un.write mu he k heo) (I.hok.write mu he k heo new)
theorem Inv.weak {σ':List (Option V)} (I:Inv X pins σ H s) (hl:σ'.length=σ.length) (w:∀ (i:Nat) v,σ'[i]?=some (some v)->σ[i]?=some (some v)):Inv X pins σ' H s:=
 ⟨I.ok,I.os,I.bare,I.base,let ⟨m,hn,hl'⟩:=I.loc;⟨m,hn,fun i x v e1 e2 e3=>hl' i x v e1 (w i v e2) e3⟩,I.cell,I.free,I.freeC,I.pin,I.hok,hl.trans I.len⟩
theorem Inv.pins_of {pins':List (Addr×Obj)} (I:Inv X pins σ H s) (h:∀ p∈pins',s.heap.get? p.1=some p.2/\H p.1=none/\p.1≠X.env.locals/\p.1∉X.fs/\∀ v,p.2.data≠.cell v):Inv X pins' σ H s:=
 ⟨I.ok,I.os,I.bare,I.base,I.loc,I.cell,I.free,I.freeC,fun p hp=>(List.mem_append.mp hp).elim (fun z=>I.pin p (List.mem_append_left _ z)) (h p),I.hok,I.len⟩
theorem Jg {N:List Str} (hN:N.Nodup) {i j:Nat} {x:Str} (a:N[i]?=some x) (b:N[j]?=some x):i=j:=by
 obtain ⟨h1,e1⟩:=List.getElem?_eq_some_iff.mp a;obtain ⟨h2,e2⟩:=List.getElem?_eq_some_iff.mp b;exact (List.getElem_inj hN).mp (e1.trans e2.symm)
theorem HK {M:Model} {A:Around} {E:Value->Shared->Prop} {i:Nat} {x:Str} {v:V} {u:Value} {Q:Unit->Shared->Prop} (I:Inv X pins σ H s) (hN:X.N.Nodup) (hi:X.N[i]?=some x) (hx:Loc X.env.scope x) (r:RelV v u)
    (h:∀ s',Inv X pins (σ.set i (some v)) H s'->(∃ a,Heap.SameBut a s.heap s'.heap/\(a=X.env.locals\/X.env.cells.lookup x=some a))->Q () s') (hf:X.fn x=true\/X.env.scope.names.lookup x=some .local:=by first | exact .inl rfl | exact .inr rfl | assumption):wpAny M A (storeName X.env x u) Q E s:=by
  obtain ⟨m,hn,hl⟩:=id I.loc;have hcls:(X.env.scope.kind == .class || (X.env.scope.kind == .module && X.env.locals != X.env.globals))=false:=by rw [I.ok.kind];rfl
  have hiσ:i < σ.length:=by rw [I.len];exact (List.getElem?_eq_some_iff.mp hi).1
  have cne:=I.cne;have tracked:∀ {a:Addr} {h':Heap},(∃ o,s.heap.get? a=some o/\H a=none)->Heap.SameBut a s.heap h'->Dm X.prog X.w H h':=fun {a h'} ha hs b ob e=>by
    obtain ⟨_,_,hfree⟩:=ha;refine (I.hok b ob e).stay (fun c w' hc q=>(hs.2 c ?_).trans q) (fun _ q=>q) fun _ _ q=>q
    rintro rfl;rcases hc with rfl | hc
    · rw [hfree] at e;cases e
    · rw [hfree] at hc;cases hc
  rcases hx with hk | hk
  · refine wpAny_storeName_local hk hn (fun h' hn' hs=>?_) hcls;obtain ⟨oL,_,_,hoL,_⟩:=id hn;refine h _ ⟨I.ok,I.os,I.bare,⟨fun b o e n hb hx=>?_,fun b o e n hb hx=>?_,I.base.free,fun b o e hx=>?_,I.base.tups,I.base.frzs,I.base.tbls⟩,⟨_,hn',fun j y v' e1 e2 e3=>?_⟩,fun y c e=>?_,I.free,I.freeC,fun p hp=>?_,tracked ⟨oL,hoL,I.free⟩ hs,by simpa using I.len⟩ ⟨_,hs,.inl rfl⟩
    · exact (hs.2 b (Nat.ne_of_lt (Nat.lt_of_lt_of_le (Heap.lt_size e) I.ok.above))).trans (I.base.keep b o e n hb hx)
    · obtain ⟨sl,e1⟩:=I.base.slot b o e n hb hx;exact ⟨sl,(hs.2 b (Nat.ne_of_lt (Nat.lt_of_lt_of_le (Heap.lt_size e) I.ok.above))).trans e1⟩
    · obtain ⟨o',e1⟩:=I.base.there b o e hx;exact ⟨o',(hs.2 b (Nat.ne_of_lt (Nat.lt_of_lt_of_le (Heap.lt_size e) I.ok.above))).trans e1⟩
    · by_cases hj:j=i
      · subst hj;rw [hi] at e1;cases e1;rw [List.getElem?_set_self hiσ] at e2;cases e2;exact ⟨u,r,.inl ⟨hk,by simp⟩⟩
      · rw [List.getElem?_set_ne (Ne.symm hj)] at e2;obtain ⟨u',r',q⟩:=hl j y v' e1 e2 e3;refine ⟨u',r',?_⟩;rcases q with ⟨k,e⟩ | ⟨k,c,e,z⟩
        · refine .inl ⟨k,?_⟩;have:y≠x:=fun e=>hj (Jg hN e1 (e▸hi))
          simp [this,e]
        · exact .inr ⟨k,c,e,z.sameBut hs (cne y c e)⟩
    · obtain ⟨w',z⟩:=I.cell y c e;exact ⟨w',z.sameBut hs (cne y c e)⟩
    · obtain ⟨e,n,ne,nf,d⟩:=I.pin p hp;exact ⟨(hs.2 p.1 ne).trans e,n,ne,nf,d⟩
  · have hfn:X.fn x=true:=by
      rcases hf with z | z
      · exact z
      · rw [z] at hk;cases hk
    obtain ⟨c,hc⟩:=I.ok.has x (.inl hk);obtain ⟨w',z⟩:=I.cell x c hc;refine wpAny_storeName_cell I.ok.kind hk hc z (fun h' hc' hs=>?_);obtain ⟨oc,hoc,hocd⟩:=id z;refine h { s with heap:=h' } ⟨I.ok,I.os,I.bare,⟨fun b o e n hb hx=>?_,fun b o e n hb hx=>?_,I.base.free,fun b o e hx=>?_,I.base.tups,I.base.frzs,I.base.tbls⟩,⟨m,hn.sameBut hs (Ne.symm (cne x c hc)),fun j y v' e1 e2 e3=>?_⟩,fun y c' e=>?_,I.free,I.freeC,fun p hp=>?_,tracked ⟨oc,hoc,I.freeC x c hc⟩ hs,by simpa using I.len⟩ ⟨c,hs,.inr hc⟩
    · exact (hs.2 b (Nat.ne_of_lt (Nat.lt_of_lt_of_le (Heap.lt_size e) (I.ok.cab x c hfn hc)))).trans (I.base.keep b o e n hb hx)
    · obtain ⟨sl,e1⟩:=I.base.slot b o e n hb hx;exact ⟨sl,(hs.2 b (Nat.ne_of_lt (Nat.lt_of_lt_of_le (Heap.lt_size e) (I.ok.cab x c hfn hc)))).trans e1⟩
    · obtain ⟨o',e1⟩:=I.base.there b o e hx;exact ⟨o',(hs.2 b (Nat.ne_of_lt (Nat.lt_of_lt_of_le (Heap.lt_size e) (I.ok.cab x c hfn hc)))).trans e1⟩
    · by_cases hj:j=i
      · subst hj;rw [hi] at e1;cases e1;rw [List.getElem?_set_self hiσ] at e2;cases e2;exact ⟨u,r,.inr ⟨.inl hk,c,hc,hc'⟩⟩
      · rw [List.getElem?_set_ne (Ne.symm hj)] at e2;obtain ⟨u',r',q⟩:=hl j y v' e1 e2 e3;refine ⟨u',r',?_⟩;rcases q with q | ⟨k,c',e,z'⟩
        · exact .inl q
        · refine .inr ⟨k,c',e,z'.sameBut hs ?_⟩;rintro rfl;exact hj (Jg hN e1 (I.ok.inj _ _ _ e hc▸hi))
    · by_cases hcc:c'=c
      · subst hcc;exact ⟨_,hc'⟩
      · obtain ⟨w2,z2⟩:=I.cell y c' e;exact ⟨w2,z2.sameBut hs hcc⟩
    · obtain ⟨e,n,ne,nf,d⟩:=I.pin p hp;refine ⟨(hs.2 p.1 ?_).trans e,n,ne,nf,d⟩;intro q;rw [q,hoc] at e;have q':oc=p.2:=Option.some.inj e;exact d w' (by rw [<- q'];exact hocd)
theorem Cj {M:Model} {A:Around} {E:Value->Shared->Prop} {i:Nat} {x:Str} {v:V} {u:Value} {Q:Unit->Shared->Prop} (I:Inv X pins σ H s) (hN:X.N.Nodup) (hi:X.N[i]?=some x) (hx:Loc X.env.scope x) (r:RelV v u)
    (h:∀ s',Inv X pins (σ.set i (some v)) H s'->Q () s') (hf:X.fn x=true\/X.env.scope.names.lookup x=some .local:=by first | exact .inl rfl | exact .inr rfl | assumption):wpAny M A (storeName X.env x u) Q E s:=
  HK I hN hi hx r (fun s' I' _=>h s' I') hf
theorem Inv.call' {s':Shared} {ch:List Addr} (I:Inv X pins σ H s) (ho:s'.os=s.os) (u:Un (Mb X.stack) ch H H' s.heap s'.heap) (hok:Dm X.prog X.w H' s'.heap) (hg:AllBare s'.gens)
    (hch:∀ b∈ch,(b∈X.ex\/X.s₀.heap.objs.size<=b)/\b≠X.env.locals/\(∀ x c,X.env.cells.lookup x=some c->c≠b)/\∀ p∈X.pn++pins,p.1≠b):Inv X pins σ H' s':=by
  obtain ⟨h',g',d',t',o'⟩:=s';have e:o'=s.os:=ho;subst e;exact I.call (g':=g') (t':=t') (d':=d') u hok hg hch
end
abbrev XK:=Value->Option Addr->Hp->Prop
noncomputable abbrev St:=List (Option V)
abbrev VK:=V->Hp->Prop
abbrev TE:=St->Hp->VK->Prop
abbrev TT:=St->Hp->(Bool->Hp->Prop)->Prop
abbrev TA:=St->Hp->(List V->Hp->Prop)->Prop
structure Ends where
 nx:St->Hp->Prop
 rt:VK
 bk:St->Hp->Prop:=fun _ _=>False
 ct:St->Hp->Prop:=fun _ _=>False
abbrev TS:=Ends->St->Hp->Prop
def EP (X:Cx) (pins:List (Addr×Obj)) (σ:St) (Q:VK) (u:Value) (s':Shared):Prop:=∃ v H',Inv X pins σ H' s'/\RelV v u/\Q v H'
def TP (X:Cx) (pins:List (Addr×Obj)) (σ:St) (Q:Bool->Hp->Prop) (b:Bool) (s':Shared):Prop:=∃ H',Inv X pins σ H' s'/\Q b H'
def AP (X:Cx) (pins:List (Addr×Obj)) (σ:St) (Q:List V->Hp->Prop) (us:List Value) (s':Shared):Prop:=∃ vs H',Inv X pins σ H' s'/\AE vs us/\Q vs H'
def SP (X:Cx) (pins:List (Addr×Obj)) (D:Ends) (f:Flow) (s':Shared):Prop:=
 match f with
 | .next=>∃ σ' H',Inv X pins σ' H' s'/\D.nx σ' H'
 | .brk=>∃ σ' H',Inv X pins σ' H' s'/\D.bk σ' H'
 | .cont=>∃ σ' H',Inv X pins σ' H' s'/\D.ct σ' H'
 | .ret u=>∃ v σ' H',Inv X pins σ' H' s'/\RelV v u/\D.rt v H'
def PE (X:Cx) (e:Expr) (t:TE):Prop:=
 ∀ (pins:List (Addr×Obj)) (s:Shared) (σ:St) (H:Hp) (Q:VK),Inv X pins σ H s->t σ H Q->wpAny (model X.prog X.w) X.A (eval e X.env) (EP X pins σ Q) X.xe s
def PT (X:Cx) (e:Expr) (t:TT):Prop:=
 ∀ (pins:List (Addr×Obj)) (s:Shared) (σ:St) (H:Hp) (Q:Bool->Hp->Prop),Inv X pins σ H s->t σ H Q->wpAny (model X.prog X.w) X.A (isTrue e X.env (eval e X.env)) (TP X pins σ Q) X.xe s
def PW (X:Cx) (e:Expr) (t:TT):Prop:=
 ∀ (whole:Sem Value) (pins:List (Addr×Obj)) (s:Shared) (σ:St) (H:Hp) (Q:Bool->Hp->Prop),Inv X pins σ H s->t σ H Q->wpAny (model X.prog X.w) X.A (isTrue e X.env whole) (TP X pins σ Q) X.xe s
theorem PW.pt {X:Cx} {e:Expr} {t:TT} (h:PW X e t):PT X e t:=h _
def PA (X:Cx) (es:List Expr) (t:TA):Prop:=
 ∀ (pos:Pos) (pins:List (Addr×Obj)) (s:Shared) (σ:St) (H:Hp) (Q:List V->Hp->Prop),Inv X pins σ H s->t σ H Q->wpAny (model X.prog X.w) X.A (spliced (backTo pos (starEach es X.env))) (AP X pins σ Q) X.xe s
def PS (X:Cx) (st:Stmt) (t:TS):Prop:=
 ∀ (pins:List (Addr×Obj)) (s:Shared) (σ:St) (H:Hp) (D:Ends),Inv X pins σ H s->t D σ H->wpAny (model X.prog X.w) X.A (exec st X.env) (SP X pins D) X.xe s
def Ce (X:Cx) (st:List Stmt) (t:TS):Prop:=
 ∀ (pins:List (Addr×Obj)) (s:Shared) (σ:St) (H:Hp) (D:Ends),Inv X pins σ H s->t D σ H->wpAny (model X.prog X.w) X.A (execs st X.env) (SP X pins D) X.xe s
theorem Al {α:Type} {t:Sem α} {Q Q':α->Shared->Prop} {M:Model} {A:Around} {E:Value->Shared->Prop} {s:Shared} (h:wpAny M A t Q E s) (hQ:∀ a s,Q a s->Q' a s):wpAny M A t Q' E s:=wpAny_mono h hQ fun _ _ x=>x
section
variable {X:Cx}
theorem bin {a b:Expr} {ta tb:TE} (ha:PE X a ta) (hb:PE X b tb) {pins:List (Addr×Obj)} {s:Shared} {σ:St} {H:Hp} {R:V->V->Hp->Prop} (I:Inv X pins σ H s) (h:ta σ H fun x H1=>tb σ H1 fun y H2=>R x y H2)
    {α:Type} {Q:α->Shared->Prop} {f:Value->Value->Sem α}
    (hf:∀ v u s2 x y H2,Inv X pins σ H2 s2->RelV x v->RelV y u->R x y H2->wpAny (model X.prog X.w) X.A (f v u) Q X.xe s2) :
    wpAny (model X.prog X.w) X.A (eval a X.env) (fun v s₁=>wpAny (model X.prog X.w) X.A (eval b X.env) (fun u s₂=>wpAny (model X.prog X.w) X.A (f v u) Q X.xe s₂) X.xe s₁) X.xe s:=by
  refine Al (ha pins s σ H _ I h) fun v s1 ⟨x,H1,I1,r1,q1⟩=>?_
  refine Al (hb pins s1 σ H1 _ I1 q1) fun u s2 ⟨y,H2,I2,r2,q2⟩=>?_
  exact hf v u s2 x y H2 I2 r1 r2 q2
abbrev Fm (i:Nat):TE:=fun σ H Q=>∃ v,σ[i]?=some (some v)/\Q v H
abbrev tC (v:V):TE:=fun _ H Q=>Q v H
theorem QS {i:Nat} {x:Str} {pos:Pos} (hN:X.N[i]?=some x) (hv:aG X.env.scope x) (hd:(x == ("__debug__" : Str))=false:=by decide) (hcd:(x == ("__classdict__" : Str))=false:=by decide):PE X (.Name x pos) (Fm i):=by
 intro pins s σ H Q I h;obtain ⟨v,e,h⟩:=h;obtain ⟨m,hn,hl⟩:=I.loc;obtain ⟨u,r,l⟩:=hl i x v hN e hv;have fin:EP X pins σ Q u s:=⟨v,H,I,r,h⟩;rcases l with ⟨hk,hm⟩ | ⟨hk,c,hc,hcell⟩
 ·exact wpAny_Name (wpAny_loadName_local I.ok.kind hk hn hm fin) hd
 ·rcases hk with hk | hk
  ·exact wpAny_Name (wpAny_loadName_cell I.ok.kind hk hc hcell fin) hd
  ·exact wpAny_Name (wpAny_loadName_free I.ok.kind hk hc hcell fin hcd) hd
theorem YL {i j pos}:PE X (.Constant (.int i) j pos) (tC (.int i)):=fun _ _ _ H _ I h=>wpAny_Constant_int ⟨.int i,H,I.tok _,⟨_,rfl⟩,h⟩
theorem ba {b j pos}:PE X (.Constant (.bool b) j pos) (tC (.bl b)):=fun _ _ _ H _ I h=>Constant_bool ⟨.bl b,H,I,rfl,h⟩
theorem YJ {j pos}:PE X (.Constant .none j pos) (tC .non):=fun _ _ _ H _ I h=>Constant_none ⟨.non,H,I,rfl,h⟩
theorem YG {x j pos}:PE X (.Constant (.str x) j pos) (tC (.str x)):=fun _ _ _ H _ I h=>Calls.Constant_str ⟨.str x,H,I.tok _,⟨_,rfl⟩,h⟩
def Gl (X:Cx) (x:Str):Prop:=X.env.kindOf x=some .globalImplicit
theorem IX {E:Value->Shared->Prop} {pins:List (Addr×Obj)} {s:Shared} {σ:St} {H:Hp} {x:Str} {u:Value} {pos:Pos} {Q:Value->Shared->Prop} (I:Inv X pins σ H s) (hg:Gl X x) (hm:X.mg x=some u) (h:Q u s)
    (hd:(x == ("__debug__" : Str))=false:=by decide):wpAny (model X.prog X.w) X.A (eval (.Name x pos) X.env) Q E s:=
  Calls.Name_function_global I.ok.kind hg (Calls.loadGlobal_global (by rw [I.ok.glob];exact I.mod.glob.keeps I.bk) hm h) hd
theorem CY {E:Value->Shared->Prop} {pins:List (Addr×Obj)} {s:Shared} {σ:St} {H:Hp} {x:Str} {u:Value} {pos:Pos} {Q:Value->Shared->Prop} (I:Inv X pins σ H s) (hg:Gl X x) (hm:X.mg x=none) (hv:bootBuiltins x=some u) (h:Q u s)
    (hn:x ≠ "__name__" := by decide) (hd:(x == ("__debug__" : Str))=false:=by decide):wpAny (model X.prog X.w) X.A (eval (.Name x pos) X.env) Q E s:=by
  obtain ⟨mb,h1,h2⟩:=I.mod.blt;exact Calls.Name_function_global I.ok.kind hg (Calls.loadGlobal_builtin (by rw [I.ok.glob];exact I.mod.glob.keeps I.bk) hm (by rw [I.ok.blt];exact h1.keeps I.bk) ((h2 x hn).trans hv) h) hd
theorem UI {x:Str} {v:V} {u:Value} {pos:Pos} (hg:Gl X x) (hm:X.mg x=some u) (r:RelV v u) (hd:(x == ("__debug__" : Str))=false:=by decide):PE X (.Name x pos) (tC v):=
 fun _ _ _ H _ I h=>IX I hg hm ⟨v,H,I,r,h⟩ hd
theorem UL {x:Str} {v:V} {u:Value} {pos:Pos} (hg:Gl X x) (hm:X.mg x=none) (hv:bootBuiltins x=some u) (r:RelV v u) (hn:x ≠ "__name__" := by decide) (hd:(x == ("__debug__" : Str))=false:=by decide):PE X (.Name x pos) (tC v):=
 fun _ _ _ H _ I h=>CY I hg hm hv ⟨v,H,I,r,h⟩ hn hd
variable {a b:Expr} {ta tb:TE} {pos:Pos}
variable {tA WE:TT} {rest:List Expr}
abbrev ah (t u:TT):TT:=fun σ H Q=>t σ H fun c H1=>if c=true then u σ H1 Q else Q false H1
abbrev fw (t u:TT):TT:=fun σ H Q=>t σ H fun c H1=>if c=true then Q true H1 else u σ H1 Q
abbrev aT (t:TT):TT:=fun σ H Q=>t σ H fun c H1=>Q (!c) H1
theorem Tn (ha:PT X a tA):PW X (.BoolOp .And [a] pos) tA:=by
 intro wh pins s σ H Q I h;refine isTrue_and (Al (ha pins s σ H Q I h) fun c s1 e=>?_);cases c with
 | true=>exact isTrue_and_nil e
 | false=>exact e
theorem Xn (ha:PT X a tA):PW X (.BoolOp .Or [a] pos) tA:=by
 intro wh pins s σ H Q I h;refine isTrue_or (Al (ha pins s σ H Q I h) fun c s1 e=>?_);cases c with
 | false=>exact isTrue_or_nil e
 | true=>exact e
theorem Xo (ha:PT X a tA) (hb:PW X (.BoolOp .And (b::rest) pos) WE):PW X (.BoolOp .And (a::b::rest) pos) (ah tA WE):=by
 intro wh pins s σ H Q I h;refine isTrue_and (Al (ha pins s σ H _ I h) fun c s1 ⟨H1,I1,q1⟩=>?_);cases c with
 | true=>exact hb wh pins s1 σ H1 Q I1 q1
 | false=>exact ⟨H1,I1,q1⟩
theorem bR (ha:PT X a tA) (hb:PW X (.BoolOp .Or (b::rest) pos) WE):PW X (.BoolOp .Or (a::b::rest) pos) (fw tA WE):=by
 intro wh pins s σ H Q I h;refine isTrue_or (Al (ha pins s σ H _ I h) fun c s1 ⟨H1,I1,q1⟩=>?_);cases c with
 | true=>exact ⟨H1,I1,q1⟩
 | false=>exact hb wh pins s1 σ H1 Q I1 q1
theorem Xp (ha:PT X a tA):PT X (.UnaryOp .Not a pos) (aT tA):=by
 intro pins s σ H Q I h;exact isTrue_not (ha pins s σ H (fun c H1=>Q (!c) H1) I h)
abbrev WG (ta tb:TE):TE:=fun σ H Q=>ta σ H fun x H1=>∃ c,x=.bl c/\if c=true then tb σ H1 Q else Q (.bl false) H1
abbrev aS (ta tb:TE):TE:=fun σ H Q=>ta σ H fun x H1=>∃ c,x=.bl c/\if c=true then Q (.bl true) H1 else tb σ H1 Q
abbrev WA (ta:TE):TE:=fun σ H Q=>ta σ H fun x H1=>∃ c,x=.bl c/\Q (.bl (!c)) H1
theorem YH {op} {t:TE} (h:PE X a t):PE X (.BoolOp op [a] pos) t:=fun pins s σ H Q I hw=>BoolOp_one (h pins s σ H Q I hw)
theorem YM (ha:PE X a ta) (hb:PE X (.BoolOp .And (b::rest) pos) tb):PE X (.BoolOp .And (a::b::rest) pos) (WG ta tb):=by
 intro pins s σ H Q I h;refine BoolOp_and (Al (ha pins s σ H _ I h) fun v s1 ⟨x,H1,I1,r1,q1⟩=>?_);obtain ⟨c,rfl,q1⟩:=q1;cases r1;refine wpAny_truthy_bool ?_;cases c with
 | true=>exact hb pins s1 σ H1 Q I1 q1
 | false=>exact ⟨.bl false,H1,I1,rfl,q1⟩
theorem bW (ha:PE X a ta) (hb:PE X (.BoolOp .Or (b::rest) pos) tb):PE X (.BoolOp .Or (a::b::rest) pos) (aS ta tb):=by
 intro pins s σ H Q I h;refine BoolOp_or (Al (ha pins s σ H _ I h) fun v s1 ⟨x,H1,I1,r1,q1⟩=>?_);obtain ⟨c,rfl,q1⟩:=q1;cases r1;refine wpAny_truthy_bool ?_;cases c with
 | false=>exact hb pins s1 σ H1 Q I1 q1
 | true=>exact ⟨.bl true,H1,I1,rfl,q1⟩
theorem YI (ha:PE X a ta):PE X (.UnaryOp .Not a pos) (WA ta):=by
 intro pins s σ H Q I h;refine UnaryOp_ (Al (ha pins s σ H _ I h) fun v s1 ⟨x,H1,I1,r1,q1⟩=>?_);obtain ⟨c,rfl,q1⟩:=q1;cases r1;exact not_of (wpAny_truthy_bool ⟨.bl (!c),H1,I1,rfl,q1⟩)
abbrev gA (t:TT) (ta tb:TE):TE:=fun σ H Q=>t σ H fun c H1=>if c=true then ta σ H1 Q else tb σ H1 Q
theorem QU {c:Expr} (hc:PT X c tA) (ha:PE X a ta) (hb:PE X b tb):PE X (.IfExp c a b pos) (gA tA ta tb):=by
 intro pins s σ H Q I h;refine wpAny_IfExp (Al (hc pins s σ H _ I h) fun d s1 ⟨H1,I1,q1⟩=>?_);cases d with
 | true=>exact ha pins s1 σ H1 Q I1 q1
 | false=>exact hb pins s1 σ H1 Q I1 q1
end
def CP (K:W.Frag) (H:Hp) (a:Addr) (xs:List V):Prop:=
 Rd H a (.lst xs) \/
  ∃ (o:Obj) (its:Array Value) (n:Nat),K.lookup a=some o/\o.cls=.type "list" /\ o.dict=none/\o.data=.seq its n/\its.size<=sizeLine/\AE xs its.toList
def DY (K:W.Frag) (H:Hp) (a:Addr) (xs:List V):Prop:=
 Rd H a (.tup xs) \/
  ∃ (o:Obj) (its:Array Value) (n:Nat),K.lookup a=some o/\o.cls=.type "tuple" /\ o.data=.seq its n/\its.size<=sizeLine/\AE xs its.toList
noncomputable def fW:Value->Option V
 | .none=>some .non
 | .bool b=>some (.bl b)
 | .int i _=>some (.int i)
 | .str x _=>some (.str x)
 | .bytes b _=>some (.byt b)
 | .float b _=>some (.flt b)
 | .ref a=>some (.ref a)
 | .type n=>some (.ty n)
 | _=>none
theorem RelV.abs {x:V} {u:Value} (r:RelV x u):fW u=some x:=by
 cases x with
 | non=>cases r;rfl
 | bl _=>cases r;rfl
 | int _=>obtain ⟨t,rfl⟩:=r;rfl
 | str _=>obtain ⟨t,rfl⟩:=r;rfl
 | byt _=>obtain ⟨t,rfl⟩:=r;rfl
 | flt _=>obtain ⟨t,rfl⟩:=r;rfl
 | ref _=>cases r;rfl
 | ty _=>cases r;rfl
theorem RelV.inj {x y:V} {u:Value} (r:RelV x u) (q:RelV y u):x=y:=Option.some.inj (r.abs.symm.trans q.abs)
theorem AE.inj:∀ {xs ys:List V} {us:List Value},AE xs us->AE ys us->xs=ys
 | _,_,_,.nil,.nil=>rfl
 | _,_,_,.cons r t,.cons r' t'=>by rw [r.inj r',AE.inj t t']
section
variable {X:Cx} {pins:List (Addr×Obj)} {σ:St} {H:Hp} {s:Shared} {a:Addr} {xs ys:List V}
theorem Inv.list (I:Inv X pins σ H s) (h:CP X.K H a xs):∃ its:List Value,AE xs its/\PlainL s.heap a its.toArray/\xs.length<=sizeLine:=by
 rcases h with h | ⟨o,its,n,hk,hc,hd,hs,hz,r⟩
 ·obtain ⟨z,its,n,r,e⟩:=h.ok I.hok;exact ⟨its,r,⟨_,n,e,rfl,rfl,rfl⟩,z⟩
 ·refine ⟨its.toList,r,⟨o,n,I.kIn a o hk,hc,hd,by simpa using hs⟩,?_⟩;have e:=r.length;simp only [Array.length_toList] at e;omega
theorem Inv.tuple (I:Inv X pins σ H s) (h:DY X.K H a xs):∃ its:List Value,AE xs its/\IsTup s.heap a its.toArray/\xs.length<=sizeLine:=by
 rcases h with h | ⟨o,its,n,hk,hc,hs,hz,r⟩
 ·obtain ⟨z,its,r,p⟩:=h.ok I.hok;exact ⟨its,r,p.tup,z⟩
 ·refine ⟨its.toList,r,⟨o,I.kIn a o hk,hc,n,by simpa using hs⟩,?_⟩;have e:=r.length;simp only [Array.length_toList] at e;omega
theorem Inv.list_inj (I:Inv X pins σ H s) (h:CP X.K H a xs) (h':CP X.K H a ys):xs=ys:=by
 obtain ⟨its,r,⟨o,n,e,_,_,d⟩,_⟩:=I.list h;obtain ⟨its',r',⟨o',n',e',_,_,d'⟩,_⟩:=I.list h';rw [e] at e';cases e';rw [d] at d';injection d' with d1 _
 have:its=its':=by simpa using congrArg Array.toList d1
 subst this;exact r.inj r'
theorem Inv.tuple_inj (I:Inv X pins σ H s) (h:DY X.K H a xs) (h':DY X.K H a ys):xs=ys:=by
 obtain ⟨its,r,⟨o,e,_,n,d⟩,_⟩:=I.tuple h;obtain ⟨its',r',⟨o',e',_,n',d'⟩,_⟩:=I.tuple h';rw [e] at e';cases e';rw [d] at d';injection d' with d1 _
 have:its=its':=by simpa using congrArg Array.toList d1
 subst this;exact r.inj r'
end
noncomputable abbrev Cx.wish (X:Cx) (E:Value->Shared->Prop):Cx:={ X with xe:=E }
noncomputable abbrev Cx.nox (X:Cx):Cx:=X.wish fun _ _=>False
theorem Cx.Ok.wish {X:Cx} (ok:X.Ok) (E:Value->Shared->Prop):(X.wish E).Ok:=
 ⟨ok.mod,ok.kind,ok.glob,ok.blt,ok.above,ok.inj,ok.has,ok.cab,ok.hd,ok.frames,ok.stk,ok.exf,ok.bs,ok.bsz,ok.noex,ok.exfs,ok.funs,ok.frf⟩
theorem Cx.Ok.unwish {X:Cx} {E:Value->Shared->Prop} (ok:(X.wish E).Ok):X.Ok:=
 ⟨ok.mod,ok.kind,ok.glob,ok.blt,ok.above,ok.inj,ok.has,ok.cab,ok.hd,ok.frames,ok.stk,ok.exf,ok.bs,ok.bsz,ok.noex,ok.exfs,ok.funs,ok.frf⟩
section
variable {X:Cx} {pins:List (Addr×Obj)} {σ:St} {H:Hp} {s:Shared} {E:Value->Shared->Prop}
theorem Inv.wish (I:Inv X pins σ H s) (E:Value->Shared->Prop):Inv (X.wish E) pins σ H s:=⟨I.ok.wish E,I.os,I.bare,I.base,I.loc,I.cell,I.free,I.freeC,I.pin,I.hok,I.len⟩
theorem Inv.unwish (I:Inv (X.wish E) pins σ H s):Inv X pins σ H s:=⟨I.ok.unwish,I.os,I.bare,I.base,I.loc,I.cell,I.free,I.freeC,I.pin,I.hok,I.len⟩
theorem SP.unwish {D:Ends} {f:Flow} {s':Shared} (h:SP (X.wish E) pins D f s'):SP X pins D f s':=by
 cases f with
 | next=>obtain ⟨σ',H',I,q⟩:=h;exact ⟨σ',H',I.unwish,q⟩
 | brk=>obtain ⟨σ',H',I,q⟩:=h;exact ⟨σ',H',I.unwish,q⟩
 | cont=>obtain ⟨σ',H',I,q⟩:=h;exact ⟨σ',H',I.unwish,q⟩
 | ret u=>obtain ⟨v,σ',H',I,r,q⟩:=h;exact ⟨v,σ',H',I.unwish,r,q⟩
theorem Ce.nox {st:List Stmt} {t:TS} (h:Ce X.nox st t):Ce X st t:=fun pins s σ H D I hw =>
 wpAny_mono (h pins s σ H D (I.wish _) hw) (fun _ _ q=>q.unwish) fun _ _ z=>False.elim z
end
section
variable {X:Cx} {st:Stmt} {rest:List Stmt} {t u:TS} {e:Expr} {te:TE} {pos:Pos}
abbrev PK:TS:=fun D σ H=>D.nx σ H
abbrev eO (t u:TS):TS:=fun D σ H=>t { D with nx:=u D } σ H
theorem Tq:Ce X [] PK:=fun _ _ σ H _ I h=>wpAny_execs_nil ⟨σ,H,I,h⟩
theorem JW (h1:PS X st t) (h2:Ce X rest u):Ce X (st::rest) (eO t u):=by
 intro pins s σ H D I h;refine wpAny_execs_cons (Al (h1 pins s σ H { D with nx:=u D } I h) fun f s1 q=>?_);cases f with
 | next =>
  obtain ⟨σ',H',I',q⟩:=q;exact h2 pins s1 σ' H' D I' q
 | ret v=>exact q
 | brk=>exact q
 | cont=>exact q
theorem Tp (h1:PS X st t):Ce X [st] t:=by
 intro pins s σ H D I h;refine wpAny_execs_cons (Al (h1 pins s σ H D I h) fun f s1 q=>?_);cases f with
 | next=>exact wpAny_execs_nil q
 | ret v=>exact q
 | brk=>exact q
 | cont=>exact q
abbrev XM:TS:=fun D σ H=>D.bk σ H
abbrev aZ:TS:=fun D σ H=>D.ct σ H
theorem Tr:PS X (.Pass pos) PK:=fun _ _ σ H _ I h=>wpAny_Pass ⟨σ,H,I,h⟩
theorem QG:PS X (.Break pos) XM:=fun _ _ σ H _ I h=>wpAny_Break ⟨σ,H,I,h⟩
theorem JZ:PS X (.Continue pos) aZ:=fun _ _ σ H _ I h=>wpAny_Continue ⟨σ,H,I,h⟩
theorem Inv.quiet {pins:List (Addr×Obj)} {σ:St} {H:Hp} {s:Shared} (I:Inv X pins σ H s):interactive X.env=false:=by simp [interactive,I.ok.kind]
theorem Xt {x j pos pos'}:PS X (.Expr (.Constant (.str x) j pos) pos') PK:=fun _ s σ H _ I h=>wpAny_Expr (Calls.Constant_str (show SP X _ _ .next { s with toks:=s.toks+1 } from ⟨σ,H,I.tok _,h⟩)) I.quiet
abbrev aY (te:TE):TS:=fun D σ H=>te σ H fun _ H1=>D.nx σ H1
theorem Ts (he:PE X e te) (hs:swapsWith e none pos.line X.env=pure false:=by rfl):PS X (.Expr e pos) (aY te):=by
 intro pins s σ H D I h;exact wpAny_Expr_any (Al (he pins s σ H _ I h) fun v s1 ⟨x,H1,I1,r1,q1⟩=>⟨σ,H1,I1,q1⟩) I.quiet hs
abbrev eQ (te:TE):TS:=fun D σ H=>te σ H D.rt
theorem Xr (he:PE X e te):PS X (.Return (some e) pos) (eQ te):=by
 intro pins s σ H D I h;exact wpAny_Return_some (Al (he pins s σ H _ I h) fun v s1 ⟨x,H1,I1,r1,q1⟩=>⟨x,σ,H1,I1,r1,q1⟩)
abbrev eT (c:TT) (t u:TS):TS:=fun D σ H=>c σ H fun b H1=>if b=true then t D σ H1 else u D σ H1
theorem bT {c:Expr} {a b:List Stmt} {tc:TT} (hc:PT X c tc) (ha:Ce X a t) (hb:Ce X b u):PS X (.If c a b pos) (eT tc t u):=by
 intro pins s σ H D I h;refine wpAny_If (Al (hc pins s σ H _ I h) fun d s1 ⟨H1,I1,q1⟩=>?_);cases d with
 | true=>exact ha pins s1 σ H1 D I1 q1
 | false=>exact hb pins s1 σ H1 D I1 q1
end
abbrev TG:=V->St->Hp->(St->Hp->Prop)->Prop
abbrev Lv:=List V->St->Hp->(St->Hp->Prop)->Prop
def PG (X:Cx) (target:Expr) (t:TG):Prop:=
 ∀ (pins:List (Addr×Obj)) (s:Shared) (σ:St) (H:Hp) (v:V) (u:Value) (Q:St->Hp->Prop),Inv X pins σ H s->RelV v u->t v σ H Q ->
  wpAny (model X.prog X.w) X.A (assign target X.env u) (fun _ s'=>∃ σ' H',Inv X pins σ' H' s'/\Q σ' H') X.xe s
def aH (X:Cx) (ts:List Expr) (t:Lv):Prop:=
 ∀ (pins:List (Addr×Obj)) (s:Shared) (σ:St) (H:Hp) (vs:List V) (us:List Value) (Q:St->Hp->Prop),Inv X pins σ H s->AE vs us->t vs σ H Q ->
  wpAny (model X.prog X.w) X.A (assignInOrder ((assignEach ts X.env).map (·.2)) us) (fun _ s'=>∃ σ' H',Inv X pins σ' H' s'/\Q σ' H') X.xe s
abbrev Lu:=V->V->V->Hp->(Hp->Prop)->Prop
def Iy (X:Cx) (t:Lu):Prop:=
 ∀ (pins:List (Addr×Obj)) (s:Shared) (σ:St) (H:Hp) (o i v:V) (ov iv u:Value) (Q:Hp->Prop),Inv X pins σ H s->RelV o ov->RelV i iv->RelV v u->t o i v H Q ->
  wpAny (model X.prog X.w) X.A (setItem ov iv u) (fun _ s'=>∃ H',Inv X pins σ H' s'/\Q H') X.xe s
abbrev eG:=V->V->Hp->VK->Prop
def fc (X:Cx) (op:Operator) (t:eG):Prop:=
 ∀ (pins:List (Addr×Obj)) (s:Shared) (σ:St) (H:Hp) (x y:V) (v u:Value) (Q:VK),Inv X pins σ H s->RelV x v->RelV y u->t x y H Q ->
  wpAny (model X.prog X.w) X.A (inplaceOp op v u) (EP X pins σ Q) X.xe s
section
variable {X:Cx} {pos:Pos}
abbrev Cv (i:Nat):TG:=fun v σ H Q=>Q (σ.set i (some v)) H
theorem UG {i:Nat} {x:Str} (hN:X.N.Nodup) (hi:X.N[i]?=some x) (hx:Loc X.env.scope x) (hf:X.fn x=true\/X.env.scope.names.lookup x=some .local:=by first | exact .inl rfl | exact .inr rfl | assumption):PG X (.Name x pos) (Cv i):=by
 intro pins s σ H v u Q I r h;exact wpAny_assign_Name (Cj I hN hi hx r (fun s' I'=>⟨_,H,I',h⟩) hf)
abbrev ZC:Lv:=fun vs σ H Q=>vs=[]/\Q σ H
abbrev Qz (t:TG) (u:Lv):Lv:=fun vs σ H Q=>∃ v r,vs=v::r/\t v σ H fun σ' H'=>u r σ' H' Q
theorem UF:aH X [] ZC:=by
 intro pins s σ H vs us Q I r h;obtain ⟨e,h⟩:=h;subst e;cases r;exact assignInOrder_nil ⟨σ,H,I,h⟩
theorem QR {e:Expr} {es:List Expr} {t:TG} {u:Lv} (h1:PG X e t) (h2:aH X es u)
    (hs:(assignEach (e::es) X.env).map (·.2)=assign e X.env::(assignEach es X.env).map (·.2):=by rfl):aH X (e::es) (Qz t u):=by
  intro pins s σ H vs us Q I r h;obtain ⟨v,vr,e1,h⟩:=h;subst e1;cases r with
  | cons r rr =>
    rw [hs];refine assignInOrder_cons (Al (h1 pins s σ H _ _ _ I r h) fun _ s1 ⟨σ1,H1,I1,q1⟩=>?_);exact h2 pins s1 σ1 H1 _ _ Q I1 rr q1
abbrev ZA (K:W.Frag) (n:Nat) (t:Lv):TG:=fun v σ H Q=>∃ a xs,v=.ref a/\DY K H a xs/\xs.length=n/\t xs σ H Q
theorem YC {es:List Expr} {k:Nat} {t:Lv} {n:Nat} (hc:X.calm=true) (h:aH X es t)
    (hn:(assignEach es X.env).length=n:=by rfl) (hst:(assignEach es X.env).findIdx? (·.1)=none:=by rfl):PG X (.Tuple es k pos) (ZA X.K n t):=by
  intro pins s σ H v u Q I r hw;obtain ⟨a,xs,e1,hq,hl,hw⟩:=hw;subst e1;cases r;obtain ⟨its,rv,ht,hz⟩:=I.tuple hq;refine assign_Tuple_tuple (I.ok.hd hc) ht (by simp [hn,<- hl,rv.length]) hst fun h' hx=>?_
  have I1:Inv X pins σ H { s with heap:=h' }:=I.kept (t':=s.toks) fun b o e=>hx b o (Nat.ne_of_lt (Heap.lt_size e)) e
  exact h pins _ σ H xs _ Q I1 (by simpa using rv) hw
abbrev cK (to ti:TE) (t:Lu):TG:=fun v σ H Q=>to σ H fun o H1=>ti σ H1 fun i H2=>t o i v H2 fun H3=>Q σ H3
theorem YD {o i:Expr} {to ti:TE} {t:Lu} (ho:PE X o to) (hi:PE X i ti) (hs:Iy X t)
    (ha:∀ v,assign (.Subscript o i pos) X.env v=(do
      let ov <- holding [v] (eval o X.env)
      let iv <- holding [v,ov] (eval i X.env)
      standAt pos
      holding [v,ov,iv] (setItem ov iv v)
      release [v,ov,iv] []):=by intro _;rfl):PG X (.Subscript o i pos) (cK to ti t):=by
  intro pins s σ H v u Q I r h;rw [ha];refine wpAny_bind (wpAny_holding (Al (ho pins s σ H _ I h) fun ov s1 ⟨x,H1,I1,r1,q1⟩=>?_));refine wpAny_bind (wpAny_holding (Al (hi pins s1 σ H1 _ I1 q1) fun iv s2 ⟨y,H2,I2,r2,q2⟩=>?_));refine wpAny_bind (wpAny_standAt (wpAny_bind (wpAny_holding (Al (hs pins s2 σ H2 x y v ov iv u _ I2 r1 r2 r q2) fun _ s3 ⟨H3,I3,q3⟩=>?_))));exact wpAny_release ⟨σ,H3,I3,q3⟩
abbrev Km (te:TE) (g:TG):TS:=fun D σ H=>te σ H fun x H1=>g x σ H1 D.nx
theorem QI {tg e:Expr} {te:TE} {g:TG} (he:PE X e te) (hg:PG X tg g) (hs:swapsWithSole [tg] e pos.line X.env=pure false:=by rfl) (hw:swappedStores [tg] e X.env=pure none:=by rfl)
    (h1:(assignEach [tg] X.env).map (·.2)=[assign tg X.env]:=by rfl):PS X (.Assign [tg] e pos) (Km te g):=by
  intro pins s σ H D I h;refine wpAny_Assign_stores (Al (he pins s σ H _ I h) fun v s1 ⟨x,H1,I1,r1,q1⟩=>?_) hs hw;rw [h1];exact Al (hg pins s1 σ H1 x v _ I1 r1 q1) fun _ s2 q=>q
theorem Xq {i:Nat} {x:Str} {e:Expr} {te:TE} {pos':Pos} (hN:X.N.Nodup) (hi:X.N[i]?=some x) (hx:Loc X.env.scope x) (he:PE X e te) (hs:swapsWith e (some (.Name x pos')) pos.line X.env=pure false:=by rfl) (hf:X.fn x=true\/X.env.scope.names.lookup x=some .local:=by first | exact .inl rfl | exact .inr rfl | assumption) :
    PS X (.Assign [.Name x pos'] e pos) (Km te (Cv i)):=by
  intro pins s σ H D I h;refine wpAny_Assign_Name (Al (he pins s σ H _ I h) fun v s1 ⟨y,H1,I1,r1,q1⟩=>?_) hs;exact Cj I1 hN hi hx r1 (fun s2 I2=>⟨_,H1,I2,q1⟩) hf
abbrev eR (i j:Nat) (ta:TA):TS:=fun D σ H=>ta σ H fun vs H1=>∃ v w,vs=[v,w]/\D.nx ((σ.set i (some v)).set j (some w)) H1
theorem Xs {i j:Nat} {x y:Str} {a b:Expr} {ta:TA} {px py pt:Pos} {kt k2 pt2} (hc:X.calm=true) (hN:X.N.Nodup) (hi:X.N[i]?=some x) (hj:X.N[j]?=some y) (hij:i≠j)
    (hx:X.env.scope.names.lookup x=some .local) (hy:X.env.scope.names.lookup y=some .local) (ha:PA X [a,b] ta)
    (hw:swappedStores [.Tuple [.Name x px,.Name y py] kt pt] (.Tuple [a,b] k2 pt2) X.env=pure (some [x,y]))
    (hs:swapsWithSole [.Tuple [.Name x px,.Name y py] kt pt] (.Tuple [a,b] k2 pt2) pos.line X.env=pure false:=by rfl) :
    PS X (.Assign [.Tuple [.Name x px,.Name y py] kt pt] (.Tuple [a,b] k2 pt2) pos) (eR i j ta):=by
  intro pins s σ H D I h;rw [exec_Assign_arm];refine wpAny_bind (wpAny_standAt ?_);rw [hs];refine wpAny_bind (wpAny_pure ?_);rw [if_neg (by decide)];refine wpAny_bind (Tuple_ (Al (ha _ pins s σ H _ I h) fun us s1 ⟨vs,H1,I1,r1,q1⟩=>?_));obtain ⟨v,w,e1,q1⟩:=q1;subst e1;obtain ⟨u1,u2,rfl,rv,rw'⟩:∃ u1 u2,us=[u1,u2]/\RelV v u1/\RelV w u2:=by
    cases r1 with
    | cons p q =>
      cases q with
      | cons p' q' =>
        cases q';exact ⟨_,_,rfl,p,p'⟩
  refine wpAny_newObj_type ?_ (by show 2<=sizeLine;decide)
  have I2:Inv X pins σ H1 { s1 with heap:=s1.heap.push { cls:=.type "tuple", data:=.seq [u1,u2].toArray } }:=I1.kept (t':=s1.toks) fun b o e=>Heap.get?_push_of_some _ e
  rw [hw];refine wpAny_bind (wpAny_pure ?_)
  show wpAny (model X.prog X.w) X.A (do rule "assign.swapped-stores"; let items <- unpackItems (.ref s1.heap.objs.size) 2 none;assignInOrder [fun v=>bindName X.env y v,fun v=>bindName X.env x v] items.reverse;pure Flow.next) _ _ _
  refine wpAny_bind (wpAny_rule (wpAny_bind (unpackItems_tuple (items:=#[u1,u2]) (I.ok.hd hc) (IsTup.new s1.heap _) fun h' hx'=>?_)));have I3:=I2.kept (h':=h') (t':=s1.toks) fun b o e=>hx' b o (Nat.ne_of_lt (Heap.lt_size e)) e
  show wpAny _ _ (assignInOrder [fun v=>bindName X.env y v,fun v=>bindName X.env x v] [u2,u1] >>= fun _=>pure Flow.next) _ _ _;refine wpAny_bind (assignInOrder_cons (wpAny_bindName (Cj I3 hN hj (.inl hy) rw' (fun s2 I4=>?_) (.inr hy))));refine assignInOrder_cons (wpAny_bindName (Cj I4 hN hi (.inl hx) rv (fun s3 I5=>assignInOrder_nil (wpAny_pure ?_)) (.inr hx)));rw [List.set_comm _ _ (Ne.symm hij)] at I5;exact ⟨_,H1,I5,q1⟩
abbrev ae (i:Nat) (te:TE) (ti:eG):TS:=fun D σ H=>∃ x,σ[i]?=some (some x)/\te σ H fun y H1=>ti x y H1 fun z H2=>D.nx (σ.set i (some z)) H2
theorem QH {i:Nat} {x:Str} {e:Expr} {te:TE} {op:Operator} {ti:eG} {pos':Pos} (hN:X.N.Nodup) (hi:X.N[i]?=some x) (hx:Loc X.env.scope x) (he:PE X e te) (ho:fc X op ti) (hf:X.fn x=true\/X.env.scope.names.lookup x=some .local:=by first | exact .inl rfl | exact .inr rfl | assumption) :
    PS X (.AugAssign (.Name x pos') op e pos) (ae i te ti):=by
  intro pins s σ H D I h;obtain ⟨v,e1,h⟩:=h;obtain ⟨m,hn,hl⟩:=I.loc;have vis:aG X.env.scope x:=by rcases hx with k | k;exact .inl k;exact .inr (.inl k)
  obtain ⟨u,r,l⟩:=hl i x v hi e1 vis;refine wpAny_AugAssign_Name ?_;have go:wpAny (model X.prog X.w) X.A (eval e X.env) (fun w s₂=>wpAny (model X.prog X.w) X.A (inplaceOp op u w) (fun r s₃=>wpAny (model X.prog X.w) X.A (storeName X.env x r) (fun _=>SP X pins D .next) X.xe s₃) X.xe s₂) X.xe s:=by
    refine Al (he pins s σ H _ I h) fun w s1 ⟨y,H1,I1,r1,q1⟩=>?_
    refine Al (ho pins s1 σ H1 v y u w _ I1 r r1 q1) fun z s2 ⟨zv,H2,I2,r2,q2⟩=>?_
    exact Cj I2 hN hi hx r2 (fun s3 I3=>⟨_,H2,I3,q2⟩) hf
  rcases l with ⟨hk,hm⟩ | ⟨hk,c,hc,hcell⟩
  · exact wpAny_loadName_local I.ok.kind hk hn hm go
  · rcases hk with hk | hk
    · exact wpAny_loadName_cell I.ok.kind hk hc hcell go
    · rcases hx with k | k
      · have:X.env.scope.names.lookup x=some .free:=hk;rw [k] at this;cases this
      · have:X.env.scope.names.lookup x=some .free:=hk;rw [k] at this;cases this
def fD (f:Int->Int->Int):eG:=fun x y H Q=>∃ i j,x=.int i/\y=.int j/\Q (.int (f i j)) H
theorem Yy:fc X .Add (fD fun i j=>i+j):=by
 intro pins s σ H x y v u Q I r1 r2 h;obtain ⟨i,j,e1,e2,q⟩:=h;subst e1;subst e2;obtain ⟨t,rfl⟩:=r1;obtain ⟨t',rfl⟩:=r2;exact iadd_int ⟨.int _,H,I.tok _,⟨_,rfl⟩,q⟩
theorem Yx:fc X .Sub (fD fun i j=>i - j):=by
 intro pins s σ H x y v u Q I r1 r2 h;obtain ⟨i,j,e1,e2,q⟩:=h;subst e1;subst e2;obtain ⟨t,rfl⟩:=r1;obtain ⟨t',rfl⟩:=r2;exact isub_int ⟨.int _,H,I.tok _,⟨_,rfl⟩,q⟩
end
section
variable {X:Cx} {pos:Pos}
def PF (c:TT) (tb:TS):TS:=fun D σ H=>∃ W:Nat->St->Hp->Prop,(∃ m,W m σ H)/\∀ m σ H,W m σ H ->
 c σ H fun b H1=>if b=true then ∃ N:St->Hp->Prop,(∀ σ' H',N σ' H'->∃ m',m' < m/\W m' σ' H')/\tb { D with nx:=N,ct:=N,bk:=D.nx } σ H1 else D.nx σ H1
theorem JX {c:Expr} {body:List Stmt} {tc:TT} {tb:TS} (hp:PassesOwn (model X.prog X.w) X.A X.env X.xe) (hc:PT X c tc) (hb:Ce X body tb):PS X (.While c body [] pos) (PF tc tb):=by
 intro pins s σ H D I h;obtain ⟨W,⟨m0,w0⟩,turn⟩:=h;refine wpAny_While (codeAny_whileLoop (fun n s'=>∃ σ' H',Inv X pins σ' H' s'/\W n σ' H') ?_ m0 ⟨σ,H,I,w0⟩);rintro n s1 ⟨σ1,H1,I1,w1⟩;refine wpAny_passesOwn hp (Al (hc pins s1 σ1 H1 _ I1 (turn n σ1 H1 w1)) fun b s2 ⟨H2,I2,q2⟩=>?_);cases b with
 | true =>
  obtain ⟨N,hN,q2⟩:=q2;rw [if_pos rfl];refine wpAny_passesOwn hp (Al (hb pins s2 σ1 H2 _ I2 q2) fun f s3 q3=>?_);cases f with
  | next =>
   obtain ⟨σ3,H3,I3,n3⟩:=q3;obtain ⟨m',hm,w3⟩:=hN σ3 H3 n3;exact ⟨m',hm,σ3,H3,I3,w3⟩
  | cont =>
   obtain ⟨σ3,H3,I3,n3⟩:=q3;obtain ⟨m',hm,w3⟩:=hN σ3 H3 n3;exact ⟨m',hm,σ3,H3,I3,w3⟩
  | brk=>exact q3
  | ret v=>exact q3
 | false =>
  rw [if_neg Bool.false_ne_true];exact wpAny_execs_nil ⟨σ1,H2,I2,q2⟩
end
structure It where
 go:Nat->Hp->Prop
 yld:Nat->Hp->V->Hp->Prop
 stop:Nat->Hp->Prop
def FpOk (X:Cx) (pins:List (Addr×Obj)) (H:Hp) (b:Addr):Prop:=
 H b=none/\b≠X.env.locals/\b∉X.fs/\(b∈X.ex\/X.s₀.heap.objs.size<=b)/\(∀ x c,X.env.cells.lookup x=some c->c≠b)/\∀ p∈X.pn++pins,p.1≠b
theorem Inv.fpOk {X:Cx} {pins:List (Addr×Obj)} {σ:St} {H H':Hp} {s:Shared} {b:Addr} (I:Inv X pins σ H s) (hb:s.heap.objs.size<=b) (hn:H' b=none):FpOk X pins H' b:=by
 refine ⟨hn,Nat.ne_of_gt (Nat.lt_of_lt_of_le I.lt hb),I.nofs hb,.inr (Nat.le_trans I.sz hb),fun x c e z=>?_,fun p hp z=>?_⟩
 ·obtain ⟨v,q⟩:=I.cell x c e;exact absurd (Nat.lt_of_lt_of_le q.lt (by rw [z];exact hb)) (Nat.lt_irrefl _)
 ·exact absurd (Nat.lt_of_lt_of_le (Heap.lt_size (I.pin p hp).1) (by rw [z];exact hb)) (Nat.lt_irrefl _)
structure Turn (P:Program) (w:World) (K:W.Frag) (tg:Expr) (J:It) (fp:List Addr) (it:Addr) (tn:Nat->Heap->Prop):Prop where
 mem:it∈fp
 obj:∀ i h,tn i h->∀ b∈fp,∃ o,h.get? b=some o/\∀ v,o.data≠.cell v
 keep:∀ i h h',tn i h->(∀ b∈fp,∀ o,h.get? b=some o->h'.get? b=some o)->tn i h'
 item:∀ (X:Cx),X.prog=P->X.w=w->X.K=K->X.calm=true->∀ (i:Nat) (pins:List (Addr×Obj)) (s:Shared) (σ:St) (H:Hp) (E:Value->Shared->Prop),Inv X pins σ H s->(∀ b∈fp,FpOk X pins H b)->tn i s.heap->J.go i H ->
  wpAny (model P w) X.A (pyNext (.ref it)) (fun r s1=>∃ u,r=some u /\
   wpAny (model P w) X.A (letOwnedTupleGo tg (.ref it) u) (fun _ s2=>∃ x H',Inv X pins σ H' s2/\RelV x u/\J.yld i H x H'/\tn (i+1) s2.heap/\∀ b∈fp,H' b=none) E s1) E s
 done:∀ (X:Cx),X.prog=P->X.w=w->X.K=K->X.calm=true->∀ (i:Nat) (pins:List (Addr×Obj)) (s:Shared) (σ:St) (H:Hp) (E:Value->Shared->Prop),Inv X pins σ H s->(∀ b∈fp,FpOk X pins H b)->tn i s.heap->J.stop i H ->
  wpAny (model P w) X.A (pyNext (.ref it)) (fun r s1=>r=none/\Inv X pins σ H s1) E s
 self:∀ (A:Around) (i:Nat) (s:Shared) (Q:Value->Shared->Prop) (E:Value->Shared->Prop),tn i s.heap->Q (.ref it) s->wpAny (model P w) A (pyIter (.ref it)) Q E s
abbrev TI:=St->Hp->(It->Hp->Prop)->Prop
def gN (X:Cx) (pins:List (Addr×Obj)) (σ:St) (tg:Expr) (R:It->Hp->Prop) (itv:Value) (s2:Shared):Prop:=
 ∃ (it:Addr) (fp:List Addr) (tn:Nat->Heap->Prop) (J:It) (H':Hp),itv=.ref it/\Inv X pins σ H' s2/\Turn X.prog X.w X.K tg J fp it tn/\tn 0 s2.heap/\(∀ b∈fp,FpOk X pins H' b)/\R J H'
def PI (X:Cx) (tg iter:Expr) (wi:TI):Prop:=
 ∀ (pins:List (Addr×Obj)) (s:Shared) (σ:St) (H:Hp) (R:It->Hp->Prop),Inv X pins σ H s->wi σ H R ->
  wpAny (model X.prog X.w) X.A (eval iter X.env) (fun v s1=>wpAny (model X.prog X.w) X.A (pyIter v) (gN X pins σ tg R) X.xe s1) X.xe s
theorem Js {M:Model} {A:Around} {E:Value->Shared->Prop} {s:Shared} {tg:Expr} {it:Addr} {u:Value} {o:Obj} {n:String} {vs:Array Value} {Q:Unit->Shared->Prop} (ho:s.heap.get? it=some o) (hc:o.cls=.type n) (hd:o.data=.fields vs)
    (hn:["enumerate", "zip", "dict_itemiterator", "dict_reverseitemiterator", "odict_iterator", "itertools.zip_longest", "itertools.pairwise"].contains n=false) (hQ:Q () s):wpAny M A (letOwnedTupleGo tg (.ref it) u) Q E s:=by
  unfold letOwnedTupleGo;cases tg<;>first
    | exact wpAny_pure hQ
    | (cases u<;>first
        | exact wpAny_pure hQ
        | (refine wpAny_bind (wpAny_load ho ?_)
           rw [hc,hd]
           show wpAny M A (if (["enumerate", "zip", "dict_itemiterator", "dict_reverseitemiterator", "odict_iterator", "itertools.zip_longest", "itertools.pairwise"].contains n && vs[0]? == some (rawInt _))=true then _ else _) Q E s
           rw [if_neg (by intro h;rw [hn,Bool.false_and] at h;cases h)];exact wpAny_pure hQ))
noncomputable def eK (K:W.Frag) (a:Addr):It:=
 ⟨fun i H=>∃ xs x,CP K H a xs/\xs[i]?=some x,fun i H x H'=>H'=H/\∀ xs,CP K H a xs->xs[i]?=some x,fun i H=>∃ xs,CP K H a xs/\xs.length<=i⟩
noncomputable def ff (K:W.Frag) (a:Addr):It:=
 ⟨fun i H=>∃ xs x,DY K H a xs/\xs[i]?=some x,fun i H x H'=>H'=H/\∀ xs,DY K H a xs->xs[i]?=some x,fun i H=>∃ xs,DY K H a xs/\xs.length<=i⟩
noncomputable def dX (lo:Int) (n:Nat):It:=⟨fun i _=>i < n,fun i H x H'=>H'=H/\x=.int (lo+i),fun i _=>n<=i⟩
theorem NA {P:Program} {w:World} {K:W.Frag} {tg:Expr} (a it:Addr):Turn P w K tg (eK K a) [it] it (fun i h=>h.IsListIter it a i) where
 mem:=by simp
 obj:=fun i h st b hb=>by
  have e:b=it:=by simpa using hb
  subst e;obtain ⟨o,e,c,d⟩:=st;exact ⟨o,e,fun v z=>by rw [d] at z;cases z⟩
 keep:=fun i h h' st k=>st.at fun o e=>k it (by simp) o e
 item:=by
  intro X hP hw hK hc i pins s σ H E I hf st hg;subst hP hw hK;obtain ⟨xs,x,hq,hx⟩:=hg;obtain ⟨its,rv,p,hz⟩:=I.list hq;obtain ⟨u,hu,ru⟩:=rv.get hx;obtain ⟨f0,f1,f2,f3,f4,f5⟩:=hf it (by simp);refine wpAny_pyNext_list_item st p.isList (x:=u) (by simpa using hu) fun h' st' sb=>?_
  have I1:Inv X pins σ H { s with heap:=h' }:=I.turned (t':=s.toks) (fun b o hb e=>(sb.2 b hb).trans e) f0 f1 f3 f4 f5;obtain ⟨o,e,c,d⟩:=id st';exact ⟨u,rfl,Js (s:={ s with heap:=h' }) e c d (by decide) ⟨x,H,I1,ru,⟨rfl,fun ys hy=>by rw [I.list_inj hy hq];exact hx⟩,st',fun b hb=>(hf b hb).1⟩⟩
 done:=by
  intro X hP hw hK hc i pins s σ H E I hf st hg;subst hP hw hK;obtain ⟨xs,hq,hx⟩:=hg;obtain ⟨its,rv,p,hz⟩:=I.list hq;obtain ⟨f0,f1,f2,f3,f4,f5⟩:=hf it (by simp);have hl:=rv.length;exact wpAny_pyNext_list_end (I.ok.hd hc) st p.isList (by simp;omega) fun h' eb=>⟨rfl,I.turned (t':=s.toks) (fun b o hb e=>eb b o hb e) f0 f1 f3 f4 f5⟩
 self:=fun _ _ _ _ _ st h=>wpAny_pyIter_listiter st h
theorem Kg {P:Program} {w:World} {K:W.Frag} {tg:Expr} (a it:Addr):Turn P w K tg (ff K a) [it] it (fun i h=>h.IsTupleIter it a i) where
 mem:=by simp
 obj:=fun i h st b hb=>by
  have e:b=it:=by simpa using hb
  subst e;obtain ⟨o,e,c,d⟩:=st;exact ⟨o,e,fun v z=>by rw [d] at z;cases z⟩
 keep:=fun i h h' st k=>st.at fun o e=>k it (by simp) o e
 item:=by
  intro X hP hw hK hc i pins s σ H E I hf st hg;subst hP hw hK;obtain ⟨xs,x,hq,hx⟩:=hg;obtain ⟨its,rv,p,hz⟩:=I.tuple hq;obtain ⟨u,hu,ru⟩:=rv.get hx;obtain ⟨f0,f1,f2,f3,f4,f5⟩:=hf it (by simp);refine wpAny_pyNext_tuple_item st (show s.heap.IsTuple a its.toArray from p) (x:=u) (by simpa using hu) fun h' st' sb=>?_
  have I1:Inv X pins σ H { s with heap:=h' }:=I.turned (t':=s.toks) (fun b o hb e=>(sb.2 b hb).trans e) f0 f1 f3 f4 f5;obtain ⟨o,e,c,d⟩:=id st';exact ⟨u,rfl,Js (s:={ s with heap:=h' }) e c d (by decide) ⟨x,H,I1,ru,⟨rfl,fun ys hy=>by rw [I.tuple_inj hy hq];exact hx⟩,st',fun b hb=>(hf b hb).1⟩⟩
 done:=by
  intro X hP hw hK hc i pins s σ H E I hf st hg;subst hP hw hK;obtain ⟨xs,hq,hx⟩:=hg;obtain ⟨its,rv,p,hz⟩:=I.tuple hq;obtain ⟨f0,f1,f2,f3,f4,f5⟩:=hf it (by simp);have hl:=rv.length;exact wpAny_pyNext_tuple_end (I.ok.hd hc) st (show s.heap.IsTuple a its.toArray from p) (by simp;omega) fun h' eb=>⟨rfl,I.turned (t':=s.toks) (fun b o hb e=>eb b o hb e) f0 f1 f3 f4 f5⟩
 self:=fun _ _ _ _ _ st h=>wpAny_pyIter_tupleiter st h
theorem Kh {P:Program} {w:World} {K:W.Frag} {tg:Expr} (it:Addr) (lo:Int) (n:Nat):Turn P w K tg (dX lo n) [it] it (fun i h=>IsRangeIter h it (lo+(i:Nat) * 1) ((n:Int) - (i:Nat)) 1) where
 mem:=by simp
 obj:=fun i h st b hb=>by
  have e:b=it:=by simpa using hb
  subst e;exact ⟨_,st,fun v z=>by
   have z':Data.fields _=Data.cell v:=z;cases z'⟩
 keep:=fun i h h' st k=>k it (by simp) _ st
 item:=by
  intro X hP hw hK hc i pins s σ H E I hf st hg;subst hP hw hK;obtain ⟨f0,f1,f2,f3,f4,f5⟩:=hf it (by simp);have W:=Walks.range (prog:=X.prog) (w:=X.w) (I.ok.hd hc) it lo 1 n;refine W.item i s _ _ hg st fun v h' tk hv st' kk=>?_
  obtain ⟨t,rfl⟩:=hv;have I1:Inv X pins σ H { s with heap:=h',toks:=tk }:=I.turned (fun b o hb e=>kk b o (by simpa using hb) e) f0 f1 f3 f4 f5
  refine ⟨_,rfl,Js (s:={ s with heap:=h',toks:=tk }) (n := "range_iterator") st' rfl rfl (by decide) ⟨.int (lo+i),H,I1,⟨t,?_⟩,⟨rfl,rfl⟩,st',fun b hb=>(hf b hb).1⟩⟩
  rw [Int.mul_one]
 done:=by
  intro X hP hw hK hc i pins s σ H E I hf st hg;subst hP hw hK;obtain ⟨f0,f1,f2,f3,f4,f5⟩:=hf it (by simp);exact wpAny_pyNext_range_end (I.ok.hd hc) st (by have:n<=i:=hg;omega) fun h' eb=>⟨rfl,I.turned (t':=s.toks) (fun b o hb e=>eb b o hb e) f0 f1 f3 f4 f5⟩
 self:=fun _ _ _ _ _ st h=>wpAny_pyIter_rangeiter st h
section
variable {X:Cx} {tg:Expr}
theorem Pz {pins:List (Addr×Obj)} {σ:St} {H:Hp} {s:Shared} {R:It->Hp->Prop} {E:Value->Shared->Prop} {lo hi:Int} {t u v:Tok} {tk:Nat} (I:Inv X pins σ H s) (h1:-(2 ^ 62)<=lo) (h2:lo < 2 ^ 62) (h3:-(2 ^ 62)<=hi) (h4:hi < 2 ^ 62)
    (q:R (dX lo (hi - lo).toNat) H):wpAny (model X.prog X.w) X.A (pyIter (.ref s.heap.objs.size)) (gN X pins σ tg R) E { s with heap:=s.heap.push { cls:=.type "range", data:=.fields #[.int lo t,.int hi u,.int 1 v] },toks:=tk }:=by
  refine wpAny_pyIter_range (IsRange.new ..) (small_one h1 h2 h3 h4) ?_
  have I1:Inv X pins σ H { s with heap:=s.heap.push { cls:=.type "range", data:=.fields #[.int lo t,.int hi u,.int 1 v] },toks:=tk }:=I.kept fun b o e=>Heap.get?_push_of_some _ e
  refine ⟨(s.heap.push { cls:=.type "range", data:=.fields #[.int lo t,.int hi u,.int 1 v] }).objs.size,[(s.heap.push { cls:=.type "range", data:=.fields #[.int lo t,.int hi u,.int 1 v] }).objs.size],_,_,H,rfl,
    I1.kept (t':=tk) fun b o e=>Heap.get?_push_of_some _ e,Kh _ lo (hi - lo).toNat,?_,fun b hb=>?_,q⟩
  · have e1:lo+((0:Nat):Int) * 1=lo:=by simp
    have e2:(((hi - lo).toNat:Nat):Int) - ((0:Nat):Int)=Builtin.Range.rangeSize lo hi 1:=by rw [rangeSize_one];split<;>omega
    show IsRangeIter _ _ (lo+((0:Nat):Int) * 1) ((((hi - lo).toNat:Nat):Int) - ((0:Nat):Int)) 1;rw [e1,e2];exact Heap.get?_push_size _ rfl
  · have e:b=(s.heap.push { cls:=.type "range", data:=.fields #[.int lo t,.int hi u,.int 1 v] }).objs.size:=by simpa using hb
    subst e;exact I1.fpOk (Nat.le_refl _) (I1.hok.fresh (Nat.le_refl _))
abbrev cI (ta:TA):TI:=fun σ H R=>ta σ H fun vs H1=>∃ j:Int,vs=[.int j]/\-(2 ^ 62)<=j/\j < 2 ^ 62/\R (dX 0 j.toNat) H1
theorem NW {a:Expr} {ta:TA} {p pos:Pos} (hg:Gl X "range") (hm:X.mg "range" = none) (ha:PA X [a] ta) (hs:starEach [a] X.env=[(false,eval a X.env)]:=by rfl):PI X tg (.Call (.Name "range" p) [a] [] pos) (cI ta):=by
 intro pins s σ H R I h;refine Call_ (CY I hg hm boot_range (PyProof.Rows.callWith_type1 (Al (ha pos pins s σ H _ I h) fun us s1 ⟨vs,H1,I1,r1,q1⟩=>?_) hs rfl));obtain ⟨j,e,q1,q2,q⟩:=q1;subst e;cases r1 with
 | cons r rr =>
  cases rr;obtain ⟨t,rfl⟩:=r;exact call_range_1 (Pz I1 (by omega) (by omega) q1 q2 (by simpa using q))
abbrev eU (wi:TI) (g:TG) (tb:TS):TS:=fun D σ H=>wi σ H fun J H1=>∃ W:Nat->Nat->St->Hp->Prop,(∃ m,W 0 m σ H1)/\∀ i m σ H,W i m σ H ->
 (J.stop i H/\D.nx σ H)\/(J.go i H/\∃ N:St->Hp->Prop,(∀ σ' H',N σ' H'->∃ m',m' < m/\W (i+1) m' σ' H')/\∀ x H',J.yld i H x H'->g x σ H' fun σ2 H2=>tb { D with nx:=N,ct:=N,bk:=D.nx } σ2 H2)
noncomputable def IQ (fp:List Addr) (h:Heap):List (Addr×Obj):=fp.filterMap fun b=>(h.get? b).map fun o=>(b,o)
theorem CW {fp:List Addr} {h:Heap} {b:Addr} {o:Obj} (hb:b∈fp) (e:h.get? b=some o):(b,o)∈IQ fp h:=List.mem_filterMap.mpr ⟨b,hb,by rw [e];rfl⟩
theorem Na {fp:List Addr} {h:Heap} {p:Addr×Obj} (hp:p∈IQ fp h):p.1∈fp/\h.get? p.1=some p.2:=by
 obtain ⟨b,hb,e⟩:=List.mem_filterMap.mp hp;cases q:h.get? b with
 | none=>rw [q] at e;cases e
 | some o =>
  rw [q] at e;have e':(b,o)=p:=Option.some.inj e;subst e';exact ⟨hb,q⟩
theorem Inv.pinned {pins:List (Addr×Obj)} {σ:St} {H:Hp} {s:Shared} {fp:List Addr} (I:Inv X pins σ H s) (hf:∀ b∈fp,FpOk X pins H b) (ho:∀ b∈fp,∃ o,s.heap.get? b=some o/\∀ v,o.data≠.cell v):Inv X (pins++IQ fp s.heap) σ H s:=
 I.pins_of fun p hp=>(List.mem_append.mp hp).elim (fun z=>I.pin p (List.mem_append_right _ z)) fun z=>by
  obtain ⟨hb,e⟩:=Na z;obtain ⟨f0,f1,f2,_⟩:=hf p.1 hb;obtain ⟨o,e',d⟩:=ho p.1 hb;rw [e] at e';cases e';exact ⟨e,f0,f1,f2,d⟩
theorem Inv.unpinned {pins pl:List (Addr×Obj)} {σ:St} {H:Hp} {s:Shared} (I:Inv X (pins++pl) σ H s):Inv X pins σ H s:=I.pins_of fun p hp=>I.pin p (List.mem_append_right _ (List.mem_append_left _ hp))
theorem QF {iter:Expr} {body:List Stmt} {wi:TI} {g:TG} {tb:TS} {pos:Pos} (hp:PassesOwn (model X.prog X.w) X.A X.env X.xe) (hc:X.calm=true) (hi:PI X tg iter wi) (hg:PG X tg g) (hb:Ce X body tb)
    (hs:∀ x,foldedSetIterable iter X.env x=pure x:=by intro _;rfl):PS X (.For tg iter body [] pos) (eU wi g tb):=by
  intro pins s σ H D I h;refine wpAny_For (Al (hi pins s σ H _ I h) fun v s1 h1=>Al h1 fun itv s2 h2=>?_) hs;obtain ⟨it,fp,tn,J,H2,e,I2,T,st2,f2,W,⟨m0,w0⟩,turn⟩:=h2;subst e
  -- what stays true of the iterator's objects through the loop
  have stat:∀ {H':Hp},(∀ b∈fp,H' b=none)->∀ b∈fp,FpOk X pins H' b:=fun hn b hb=>⟨hn b hb,(f2 b hb).2⟩
  refine codeAny_forLoop_any (fun n s'=>∃ i σ' H',Inv X pins σ' H' s'/\tn i s'.heap/\(∀ b∈fp,H' b=none)/\W i n σ' H') ?_ m0 ⟨0,σ,H2,I2,st2,fun b hb=>(f2 b hb).1,w0⟩;rintro n s3 ⟨i,σ3,H3,I3,st3,fr3,w3⟩;rcases turn i n σ3 H3 w3 with ⟨stop,qn⟩ | ⟨go,N,hN,step⟩
  · refine wpAny_passesOwn hp (Al (T.done X rfl rfl rfl hc i pins s3 σ3 H3 X.xe I3 (stat fr3) st3 stop) fun r s4 ⟨hr,I4⟩=>?_);subst hr;exact wpAny_execs_nil ⟨σ3,H3,I4,qn⟩
  · refine wpAny_passesOwn hp (Al (T.item X rfl rfl rfl hc i pins s3 σ3 H3 X.xe I3 (stat fr3) st3 go) fun r s4 ⟨u,hr,h4⟩=>?_);subst hr;refine wpAny_passesOwn hp (Al h4 fun _ s5 ⟨x,H5,I5,r5,y5,st5,fr5⟩=>?_);have I5':=I5.pinned (stat fr5) (T.obj _ _ st5);refine wpAny_passesOwn hp (Al (hg _ s5 σ3 H5 x u _ I5' r5 (step x H5 y5)) fun _ s6 ⟨σ6,H6,I6,q6⟩=>?_);refine wpAny_passesOwn hp (Al (hb _ s6 σ6 H6 _ I6 q6) fun f s7 q7=>?_);have again:∀ {σ7:St} {H7:Hp},Inv X (pins++IQ fp s5.heap) σ7 H7 s7->N σ7 H7->∃ m,m < n/\∃ i σ' H',Inv X pins σ' H' s7/\tn i s7.heap/\(∀ b∈fp,H' b=none)/\W i m σ' H':=fun {σ7 H7} I7 n7=>by
      obtain ⟨m',hm,w7⟩:=hN σ7 H7 n7;refine ⟨m',hm,i+1,σ7,H7,I7.unpinned,T.keep _ _ _ st5 fun b hb o e=>(I7.pin (b,o) (List.mem_append_right _ (List.mem_append_right _ (CW hb e)))).1,fun b hb=>?_,w7⟩;obtain ⟨o,e,d⟩:=T.obj _ _ st5 b hb;exact (I7.pin (b,o) (List.mem_append_right _ (List.mem_append_right _ (CW hb e)))).2.1
    cases f with
    | next=>obtain ⟨σ7,H7,I7,n7⟩:=q7;exact again I7 n7
    | cont=>obtain ⟨σ7,H7,I7,n7⟩:=q7;exact again I7 n7
    | brk=>obtain ⟨σ7,H7,I7,q7⟩:=q7;exact ⟨σ7,H7,I7.unpinned,q7⟩
    | ret v=>obtain ⟨x7,σ7,H7,I7,r7,q7⟩:=q7;exact ⟨x7,σ7,H7,I7.unpinned,r7,q7⟩
end
abbrev R2:=V->V->Hp->VK->Prop
def Bx (X:Cx) (f:Value->Value->Sem Value) (r:R2):Prop:=
 ∀ (pins:List (Addr×Obj)) (s:Shared) (σ:St) (H:Hp) (x y:V) (v u:Value) (Q:VK),Inv X pins σ H s->RelV x v->RelV y u->r x y H Q ->
  wpAny (model X.prog X.w) X.A (f v u) (EP X pins σ Q) X.xe s
def fX (X:Cx) (f:Value->Sem Value) (r:V->Hp->VK->Prop):Prop:=
 ∀ (pins:List (Addr×Obj)) (s:Shared) (σ:St) (H:Hp) (x:V) (v:Value) (Q:VK),Inv X pins σ H s->RelV x v->r x H Q ->
  wpAny (model X.prog X.w) X.A (f v) (EP X pins σ Q) X.xe s
def BE (X:Cx) (f:Value) (r:List V->Hp->VK->Prop):Prop:=
 ∀ (pins:List (Addr×Obj)) (s:Shared) (σ:St) (H:Hp) (xs:List V) (us:List Value) (Q:VK),Inv X pins σ H s->AE xs us->r xs H Q ->
  wpAny (model X.prog X.w) X.A (call f us) (EP X pins σ Q) X.xe s
def fY (X:Cx) (r:V->Hp->(Bool->Hp->Prop)->Prop):Prop:=
 ∀ (pins:List (Addr×Obj)) (s:Shared) (σ:St) (H:Hp) (x:V) (v:Value) (Q:Bool->Hp->Prop),Inv X pins σ H s->RelV x v->r x H Q ->
  wpAny (model X.prog X.w) X.A (truthy v) (TP X pins σ Q) X.xe s
abbrev de (r:R2) (ta tb:TE):TE:=fun σ H Q=>ta σ H fun x H1=>tb σ H1 fun y H2=>r x y H2 Q
abbrev gQ (r:V->Hp->VK->Prop) (ta:TE):TE:=fun σ H Q=>ta σ H fun x H1=>r x H1 Q
def rI (C:Int->Int->Prop) (g:Int->Int->V):R2:=fun x y H Q=>∃ i j,x=.int i/\y=.int j/\C i j/\Q (g i j) H
def Sr (g:Int->Int->V):R2:=fun x y H Q=>∃ i j,x=.int i/\y=.int j/\Q (g i j) H
def rU (g:Int->V):V->Hp->VK->Prop:=fun x H Q=>∃ i,x=.int i/\Q (g i) H
section
variable {X:Cx} {a b c:Expr} {ta tb tc:TE} {pos:Pos}
theorem Zo (ha:PE X a ta) (hb:PE X b tb) {pins:List (Addr×Obj)} {s:Shared} {σ:St} {H:Hp} {R:V->V->Hp->Prop} (I:Inv X pins σ H s)
    (h:ta σ H fun x H1=>tb σ H1 fun y H2=>R x y H2) {Q:Value->Shared->Prop} {f:Value->Value->Sem Value}
    (hf:∀ v u s2 x y H2,Inv X pins σ H2 s2->RelV x v->RelV y u->R x y H2->wpAny (model X.prog X.w) X.A (f v u) Q X.xe s2) :
    wpAny (model X.prog X.w) X.A (eval a X.env) (fun v s₁=>wpAny (model X.prog X.w) X.A (eval b X.env) (fun u s₂=>wpAny (model X.prog X.w) X.A (f v u) Q X.xe s₂) X.xe s₁) X.xe s:=by
  refine Al (ha pins s σ H _ I h) fun v s1 ⟨x,H1,I1,r1,q1⟩=>?_
  refine Al (hb pins s1 σ H1 _ I1 q1) fun u s2 ⟨y,H2,I2,r2,q2⟩=>?_
  exact hf v u s2 x y H2 I2 r1 r2 q2
theorem bX {op:Operator} {r:R2} (ho:Bx X (binaryOp op) r) (ha:PE X a ta) (hb:PE X b tb):PE X (.BinOp a op b pos) (de r ta tb):=by
 intro pins s σ H Q I h;exact wpAny_BinOp (Zo ha hb I h fun v u s2 x y H2 I2 rx ry q=>ho pins s2 σ H2 x y v u Q I2 rx ry q)
theorem bV {op:UnaryOp} {r:V->Hp->VK->Prop} (ho:fX X (unaryOp op) r) (ha:PE X a ta):PE X (.UnaryOp op a pos) (gQ r ta):=by
 intro pins s σ H Q I h;exact UnaryOp_ (Al (ha pins s σ H _ I h) fun v s1 ⟨x,H1,I1,r1,q1⟩=>ho pins s1 σ H1 x v Q I1 r1 q1)
theorem dg {f:Value->Value->Sem Value} {C:Int->Int->Prop} {g:Int->Int->Int}
    (rule:∀ (i j:Int) (t u:Tok) (s:Shared) (Q:Value->Shared->Prop) (E:Value->Shared->Prop),C i j->Q (.int (g i j) s.toks) { s with toks:=s.toks+1 }->wpAny (model X.prog X.w) X.A (f (.int i t) (.int j u)) Q E s) :
    Bx X f (rI C fun i j=>.int (g i j)):=by
  intro pins s σ H x y v u Q I rx ry h;obtain ⟨i,j,rfl,rfl,hc,q⟩:=h;obtain ⟨t,rfl⟩:=rx;obtain ⟨t',rfl⟩:=ry;exact rule i j t t' s _ _ hc ⟨.int (g i j),H,I.tok _,⟨_,rfl⟩,q⟩
theorem bq {f:Value->Value->Sem Value} {g:Int->Int->Int}
    (rule:∀ (i j:Int) (t u:Tok) (s:Shared) (Q:Value->Shared->Prop) (E:Value->Shared->Prop),Q (.int (g i j) s.toks) { s with toks:=s.toks+1 }->wpAny (model X.prog X.w) X.A (f (.int i t) (.int j u)) Q E s) :
    Bx X f (Sr fun i j=>.int (g i j)):=by
  intro pins s σ H x y v u Q I rx ry h;obtain ⟨i,j,rfl,rfl,q⟩:=h;obtain ⟨t,rfl⟩:=rx;obtain ⟨t',rfl⟩:=ry;exact rule i j t t' s _ _ ⟨.int (g i j),H,I.tok _,⟨_,rfl⟩,q⟩
theorem YZ {f:Value->Value->Sem Value} {g:Int->Int->Bool}
    (rule:∀ (i j:Int) (t u:Tok) (s:Shared) (Q:Value->Shared->Prop) (E:Value->Shared->Prop),Q (.bool (g i j)) s->wpAny (model X.prog X.w) X.A (f (.int i t) (.int j u)) Q E s) :
    Bx X f (Sr fun i j=>.bl (g i j)):=by
  intro pins s σ H x y v u Q I rx ry h;obtain ⟨i,j,rfl,rfl,q⟩:=h;obtain ⟨t,rfl⟩:=rx;obtain ⟨t',rfl⟩:=ry;exact rule i j t t' s _ _ ⟨.bl (g i j),H,I,rfl,q⟩
def fh (i j:Int):Prop:=0 < j/\j < 1073741824
def fg (i j:Int):Prop:=0<=j/\j<=1000000/\i.natAbs < 2 ^ 64
def Vv (i j:Int):Prop:=(-(2 ^ 64) < i/\i < 2 ^ 64)\/(-(2 ^ 64) < j/\j < 2 ^ 64)
theorem Vv.ok {i j:Int} (h:Vv i j):IntMulOk i j:=by
 rcases h with ⟨h1,h2⟩ | ⟨h1,h2⟩
 ·exact .of_left (intBits_le_64 h1 h2)
 ·exact .of_right (intBits_le_64 h1 h2)
theorem YY:Bx X (binaryOp .Add) (Sr fun i j=>.int (i+j)):=bq fun _ _ _ _ _ _ _ q=>add_int q
theorem YQ:Bx X (binaryOp .Sub) (Sr fun i j=>.int (i - j)):=bq fun _ _ _ _ _ _ _ q=>sub_int q
theorem YT:Bx X (binaryOp .Mult) (rI Vv fun i j=>.int (i * j)):=dg fun _ _ _ _ _ _ _ hc q=>mul_int q hc.ok
theorem UO:Bx X (binaryOp .FloorDiv) (rI fh fun i j=>.int (i / j)):=dg fun i j _ _ _ _ _ hc q=>by
 have h1:(0:Int) < j:=hc.1;have h2:j < 1073741824:=hc.2;exact floordiv_int (by omega) (by rw [Int.fdiv_eq_ediv_of_nonneg i (by omega)];exact q) (.inl (PyProof.noPylong_small (by omega)))
theorem YU:Bx X (binaryOp .Mod) (rI (fun _ j=>0 < j) fun i j=>.int (i % j)):=dg fun i j _ _ _ _ _ hc q=>by
 have h1:(0:Int) < j:=hc;exact mod_int' (by omega) (by rw [Int.fmod_eq_emod_of_nonneg i (by omega)];exact q)
theorem YS:Bx X (binaryOp .Pow) (rI fg fun i j=>.int (i ^ j.toNat)):=dg fun _ _ _ _ _ _ _ hc q=>pow_int_small hc.1 hc.2.1 hc.2.2 q
theorem gO {f:Value->Sem Value} {g:Int->Int}
    (rule:∀ (i:Int) (t:Tok) (s:Shared) (Q:Value->Shared->Prop) (E:Value->Shared->Prop),Q (.int (g i) s.toks) { s with toks:=s.toks+1 }->wpAny (model X.prog X.w) X.A (f (.int i t)) Q E s) :
    fX X f (rU fun i=>.int (g i)):=by
  intro pins s σ H x v Q I rx h;obtain ⟨i,rfl,q⟩:=h;obtain ⟨t,rfl⟩:=rx;exact rule i t s _ _ ⟨.int (g i),H,I.tok _,⟨_,rfl⟩,q⟩
theorem XB:fX X (unaryOp .USub) (rU fun i=>.int (-i)):=gO fun _ _ _ _ _ q=>neg_int q
end
section
variable {X:Cx} {a b c:Expr} {ta tb tc:TE} {pos:Pos}
theorem ZI {pins:List (Addr×Obj)} {σ:St} {H:Hp} {s:Shared} {Q:VK} {k k':Bool} (I:Inv X pins σ H s) (q:Q (.bl k) H) (e:k=k'):EP X pins σ Q (.bool k') s:=by
 subst e;exact ⟨.bl k,H,I,rfl,q⟩
theorem bh:Bx X (compareOp .Lt) (Sr fun i j=>.bl (decide (i < j))):=YZ fun _ _ _ _ _ _ _ q=>lt_int q
theorem bo:Bx X (compareOp .Gt) (Sr fun i j=>.bl (decide (j < i))):=YZ fun _ _ _ _ _ _ _ q=>gt_int q
theorem bp:Bx X (compareOp .GtE) (Sr fun i j=>.bl (decide (j<=i))):=YZ fun _ _ _ _ _ _ _ q=>ge_int q
theorem NZ:Bx X (compareOp .In) (fun x y H Q=>∃ i j,x=.str i/\y=.str j/\Q (.bl (!(Builtin.Str.occurrences j i 0 j.length 1).isEmpty)) H):=by
 intro pins s σ H x y v u Q I rx ry h;obtain ⟨i,j,rfl,rfl,q⟩:=h;obtain ⟨t,rfl⟩:=rx;obtain ⟨t',rfl⟩:=ry;exact in_str (ZI I q rfl)
theorem Bx.or {f:Value->Value->Sem Value} {r r':R2} (h:Bx X f r) (h':Bx X f r'):Bx X f (fun x y H Q=>r x y H Q\/r' x y H Q):=by
 intro pins s σ H x y v u Q I rx ry q;rcases q with q | q
 ·exact h pins s σ H x y v u Q I rx ry q
 ·exact h' pins s σ H x y v u Q I rx ry q
theorem UJ {op:CmpOp} {r:R2} (ho:Bx X (compareOp op) r) (ha:PE X a ta) (hb:PE X b tb) (hm:behindInMarks op b=false):PE X (.Compare a [op] [b] pos) (de r ta tb):=by
 intro pins s σ H Q I h;exact wpAny_Compare1 (Zo ha hb I h fun v u s2 x y H2 I2 rx ry q=>ho pins s2 σ H2 x y v u Q I2 rx ry q) hm
abbrev Vz (t:TE):TT:=fun σ H Q=>t σ H fun x H'=>∃ k,x=.bl k/\Q k H'
theorem To {op:CmpOp} {r:R2} (ho:Bx X (compareOp op) r) (ha:PE X a ta) (hb:PE X b tb) (hm:behindInMarks op b=false):PT X (.Compare a [op] [b] pos) (Vz (de r ta tb)):=by
 intro pins s σ H Q I h;refine wpAny_isTrue_Compare1 (Al (ha pins s σ H _ I h) fun v s1 ⟨x,H1,I1,r1,q1⟩=>Al (hb pins s1 σ H1 _ I1 q1) fun u s2 ⟨y,H2,I2,r2,q2⟩ =>
  Al (ho pins s2 σ H2 x y v u _ I2 r1 r2 q2) fun c s3 ⟨z,H3,I3,r3,k,e,q3⟩=>?_) hm
 subst e;cases r3;exact wpAny_truthy_bool ⟨H3,I3,q3⟩
abbrev ID (r r':R2) (ta tb tc:TE):TE:=fun σ H Q=>ta σ H fun x H1=>tb σ H1 fun y H2=>r x y H2 fun z H3=>∃ k,z=.bl k /\
 (if k=true then tc σ H3 fun w' H4=>r' y w' H4 Q else Q (.bl false) H3)
theorem Je {op op':CmpOp} {r r':R2} (ho:Bx X (compareOp op) r) (ho':Bx X (compareOp op') r') (ha:PE X a ta) (hb:PE X b tb) (hc:PE X c tc)
    (hm:lastMarks [op,op'] [b,c]=false:=by with_unfolding_all rfl):PE X (.Compare a [op,op'] [b,c] pos) (ID r r' ta tb tc):=by
  intro pins s σ H Q I h;refine Compare_chain (Al (ha pins s σ H _ I h) fun v s1 ⟨x,H1,I1,r1,q1⟩=>chain_link (Al (hb pins s1 σ H1 _ I1 q1) fun u s2 ⟨y,H2,I2,r2,q2⟩ =>
    Al (ho pins s2 σ H2 x y v u _ I2 r1 r2 q2) fun d s3 ⟨z,H3,I3,r3,k,e,q3⟩=>?_)) hm
  subst e;cases r3;refine wpAny_truthy_bool ?_;cases k with
  | false=>exact ite_ff ⟨.bl false,H3,I3,rfl,q3⟩
  | true=>exact ite_tt (chain_last (Al (hc pins s3 σ H3 _ I3 q3) fun w' s4 ⟨z',H4,I4,r4,q4⟩=>ho' pins s4 σ H4 y z' u w' Q I4 r2 r4 q4))
theorem JV {op op':CmpOp} {r r':R2} (ho:Bx X (compareOp op) r) (ho':Bx X (compareOp op') r') (ha:PE X a ta) (hb:PE X b tb) (hc:PE X c tc)
    (hm:lastMarks [op,op'] [b,c]=false:=by with_unfolding_all rfl):PT X (.Compare a [op,op'] [b,c] pos) (Vz (ID r r' ta tb tc)):=by
  intro pins s σ H Q I h;refine isTrue_chain (Al (ha pins s σ H _ I h) fun v s1 ⟨x,H1,I1,r1,q1⟩=>test_link (Al (hb pins s1 σ H1 _ I1 q1) fun u s2 ⟨y,H2,I2,r2,q2⟩ =>
    Al (ho pins s2 σ H2 x y v u _ I2 r1 r2 q2) fun d s3 ⟨z,H3,I3,r3,k,e,q3⟩=>?_)) hm
  subst e;cases r3;refine wpAny_truthy_bool ?_;cases k with
  | false =>
    obtain ⟨k',e',q'⟩:=q3;cases e';exact ite_ff ⟨H3,I3,q'⟩
  | true =>
    refine ite_tt (test_last (Al (hc pins s3 σ H3 _ I3 q3) fun w' s4 ⟨z',H4,I4,r4,q4⟩=>Al (ho' pins s4 σ H4 y z' u w' _ I4 r2 r4 q4) fun d' s5 ⟨z2,H5,I5,r5,k2,e2,q5⟩=>?_));subst e2;cases r5;exact wpAny_truthy_bool ⟨H5,I5,q5⟩
def Sl (K:W.Frag) (x:V) (H:Hp) (k:Bool):Prop:=
 match x with
 | .non=>k=false
 | .bl b=>k=b
 | .int i=>k=(i != 0)
 | .str y=>y.length<=sizeLine/\k=((y.length:Int) != 0)
 | .byt y=>y.size<=sizeLine/\k=((y.size:Int) != 0)
 | .ref p=>(∃ xs,CP K H p xs/\k=!xs.isEmpty)\/(∃ xs,DY K H p xs/\k=!xs.isEmpty)\/∃ kvs,H p=some (.dK kvs)/\k=!kvs.isEmpty
 | _=>False
theorem LN {κ:Type} {kvs:List (κ×V)} {vs:List (κ×Value)} (r:KV kvs vs):(!vs.isEmpty)=!kvs.isEmpty:=by
 cases r<;>rfl
theorem GX {xs:List V} {its:List Value} (r:AE xs its):(!its.toArray.isEmpty)=!xs.isEmpty:=by
 cases r<;>simp
theorem FB:(sizeLine:Nat) < 2 ^ 63:=by rw [sizeLine_eq];decide
theorem XF:fY X (fun x H Q=>∃ k,Sl X.K x H k/\Q k H):=by
 intro pins s σ H x v Q I rx h;obtain ⟨k,e,q⟩:=h;have hl:=FB;have hs:sizeLine=16777216:=sizeLine_eq;cases x with
 | non =>
  cases rx;have e':k=false:=e;subst e';exact truthy_none ⟨H,I,q⟩
 | bl b =>
  cases rx;have e':k=b:=e;subst e';exact wpAny_truthy_bool ⟨H,I,q⟩
 | int i =>
  obtain ⟨t,rfl⟩:=rx;have e':k=(i != 0):=e;subst e';exact PySem.P.truthy_int ⟨H,I,q⟩
 | str y =>
  obtain ⟨t,rfl⟩:=rx;obtain ⟨hy,e'⟩:y.length<=sizeLine/\k=((y.length:Int) != 0):=e;subst e';exact PySem.P.truthy_str (by omega) ⟨H,I.tok _,q⟩
 | byt y =>
  obtain ⟨t,rfl⟩:=rx;obtain ⟨hy,e'⟩:y.size<=sizeLine/\k=((y.size:Int) != 0):=e;subst e';exact W.truthy_bytes (by omega) ⟨H,I.tok _,q⟩
 | ref p =>
  cases rx;have e':(∃ xs,CP X.K H p xs/\k=!xs.isEmpty)\/(∃ xs,DY X.K H p xs/\k=!xs.isEmpty)\/∃ kvs,H p=some (.dK kvs)/\k=!kvs.isEmpty:=e;rcases e' with ⟨xs,hx,e'⟩ | ⟨xs,hx,e'⟩ | ⟨kvs,hx,e'⟩
  ·subst e';obtain ⟨its,r,pl,hz⟩:=I.list hx;have hlen:=r.length;exact wpAny_truthy_list pl.isList (by simp only [List.size_toArray];omega) ⟨H,I.tok _,by rw [GX r];exact q⟩
  ·subst e';obtain ⟨its,r,pl,hz⟩:=I.tuple hx;have hlen:=r.length;exact truthy_tuple pl (by simp only [List.size_toArray];omega) ⟨H,I.tok _,by rw [GX r];exact q⟩
  ·subst e';obtain ⟨hz,hS,vs,r,m⟩:kvs.length<=sizeLine/\(p == sysModules)=false/\∃ vs,KV kvs vs/\s.heap.DictOf (Aw X.prog X.w) p vs:=I.hok p _ hx;have hlen:kvs.length=vs.length:=Paired.length r;exact wpAny_truthy_dict hS m (by omega) ⟨H,I.tok _,by rw [LN r];exact q⟩
 | _=>exact (show False from e).elim
theorem QE (ha:PE X a ta) (he:∀ whole,isTrue a X.env whole=(do let v <- whole;standAt a.pos;holding [v] (truthy v))) :
    PT X a (fun σ H Q=>ta σ H fun x H'=>∃ k,Sl X.K x H' k/\Q k H'):=by
  intro pins s σ H Q I h;exact isTrue_plain (Al (ha pins s σ H _ I h) fun v s1 ⟨x,H1,I1,r1,q1⟩=>XF pins s1 σ H1 x v Q I1 r1 q1) (he _)
theorem LG:Bx X (binaryOp .Add) (fun x y H Q=>∃ i j,x=.str i/\y=.str j/\i.length+j.length<=sizeLine/\Q (.str (i++j)) H):=by
 intro pins s σ H x y v u Q I rx ry h;obtain ⟨i,j,rfl,rfl,hz,q⟩:=h;obtain ⟨t,rfl⟩:=rx;obtain ⟨t',rfl⟩:=ry;exact add_str (fun t' tk=>⟨.str (i++j),H,I.tok _,⟨_,rfl⟩,q⟩) hz
theorem vals1 {x:V} {us:List Value} (r:AE [x] us):∃ u,us=[u]/\RelV x u:=by
 cases r with
 | cons r1 r2=>cases r2;exact ⟨_,rfl,r1⟩
theorem aL {x y:V} {us:List Value} (r:AE [x,y] us):∃ u w',us=[u,w']/\RelV x u/\RelV y w':=by
 cases r with
 | cons r1 r2 =>
  cases r2 with
  | cons r3 r4=>cases r4;exact ⟨_,_,rfl,r1,r3⟩
theorem OO (hc:X.calm=true):BE X (.builtin "max") (fun xs H Q=>∃ i j,xs=[.int i,.int j]/\Q (.int (if j > i then j else i)) H):=by
 intro pins s σ H xs us Q I r h;obtain ⟨i,j,rfl,q⟩:=h;obtain ⟨u,w',rfl,⟨t,rfl⟩,⟨t',rfl⟩⟩:=aL r;refine max_two_ints (I.ok.hd hc) fun h' tk k=>⟨_,H,I.kept k,?_,q⟩
 by_cases hj:j > i
 ·rw [if_pos hj,if_pos hj];exact ⟨_,rfl⟩
 ·rw [if_neg hj,if_neg hj];exact ⟨_,rfl⟩
theorem OT:BE X (.type "int") (fun xs H Q=>(∃ i,xs=[.int i]/\Q (.int i) H)\/∃ k,xs=[.bl k]/\Q (.int (if k then 1 else 0)) H):=by
 intro pins s σ H xs us Q I r h;rcases h with ⟨i,rfl,q⟩ | ⟨k,rfl,q⟩
 ·obtain ⟨u,rfl,t,rfl⟩:=vals1 r;exact call_int_int ⟨.int i,H,I,⟨_,rfl⟩,q⟩
 ·obtain ⟨u,rfl,r1⟩:=vals1 r;cases r1;exact call_int_bool ⟨.int (if k then 1 else 0),H,I.tok _,⟨_,rfl⟩,q⟩
def dU (K:W.Frag) (x:V) (H:Hp) (n:Nat):Prop:=
 match x with
 | .str y=>y.length<=sizeLine/\n=y.length
 | .byt y=>y.size<=sizeLine/\n=y.size
 | .ref p=>(∃ xs,CP K H p xs/\n=xs.length)\/∃ xs,DY K H p xs/\n=xs.length
 | _=>False
theorem Rq:BE X (.builtin "len") (fun xs H Q=>∃ x n,xs=[x]/\dU X.K x H n/\Q (.int n) H):=by
 intro pins s σ H xs us Q I r h;obtain ⟨x,n,rfl,e,q⟩:=h;obtain ⟨u,rfl,rx⟩:=vals1 r;have hl:=FB;have hs:sizeLine=16777216:=sizeLine_eq;cases x with
 | str y =>
  obtain ⟨t,rfl⟩:=rx;obtain ⟨hy,e'⟩:y.length<=sizeLine/\n=y.length:=e;subst e';exact len_str (by omega) ⟨.int _,H,I.tok _,⟨_,rfl⟩,q⟩
 | byt y =>
  obtain ⟨t,rfl⟩:=rx;obtain ⟨hy,e'⟩:y.size<=sizeLine/\n=y.size:=e;subst e';exact W.len_bytes (by omega) ⟨.int _,H,I.tok _,⟨_,rfl⟩,q⟩
 | ref p =>
  cases rx;have e':(∃ xs,CP X.K H p xs/\n=xs.length)\/∃ xs,DY X.K H p xs/\n=xs.length:=e;rcases e' with ⟨xs,hx,e'⟩ | ⟨xs,hx,e'⟩
  ·subst e';obtain ⟨its,r',pl,hz⟩:=I.list hx;have hlen:=r'.length;exact Calls.call_len_list pl.isList (by simp only [List.size_toArray];omega) ⟨.int xs.length,H,I.tok _,⟨_,by simp only [List.size_toArray];rw [hlen]⟩,q⟩
  ·subst e';obtain ⟨its,r',pl,hz⟩:=I.tuple hx;have hlen:=r'.length;exact len_tuple pl (by simp only [List.size_toArray];omega) ⟨.int xs.length,H,I.tok _,⟨_,by simp only [List.size_toArray];rw [hlen]⟩,q⟩
 | _=>exact (show False from e).elim
end
structure ObjM (h:Heap) (x dx C:Addr) (mA:Str->Option Value):Prop where
 obj:h.get? x=some (W.instObj C dx)
 ns:h.Ns1 dx mA
 ne:dx≠x
theorem Nl {h:Heap} {dx:Addr} {mA:Str->Option Value} (n:h.Ns1 dx mA):∃ od,h.get? dx=some od/\∀ name,W.lookIn name od=some (mA name):=by
  obtain ⟨o,es,ep,ho,hd,hk,_,hm⟩:=n;refine ⟨o,ho,fun name=>?_⟩;have e:=hm name;unfold nsFind findBy at e;rw [<- Array.find?_toList] at e;unfold W.lookIn;rw [hd];dsimp only;split
  · rename_i y q;rw [q] at e;exact congrArg some e
  · rename_i q;rw [q] at e;have a:es.toList.any (·.refKey)=false:=by
      rw [List.any_eq_false];intro y hy;obtain ⟨z,t,hkey⟩:=hk y (Array.mem_toList_iff.mp hy);simp [DictEntry.refKey,hkey]
    have a':¬ es.toList.any (·.refKey)=true:=by rw [a];exact Bool.false_ne_true
    rw [if_neg a'];exact congrArg some e
theorem ObjM.look {h:Heap} {x dx C:Addr} {mA:Str->Option Value} (I:ObjM h x dx C mA):∃ od,W.InstAt h x (W.instObj C dx) C (some od)/\∀ name,W.lookIn name od=some (mA name):=
 let ⟨od,ho,hl⟩:=Nl I.ns
 ⟨od,⟨I.obj,rfl,rfl,ho⟩,hl⟩
section
end
theorem Gq.some_of {v:V} {o:Option Value} (r:Gq (some v) o):∃ u,o=some u/\RelV v u:=by
 cases o with
 | none=>exact (show False from r).elim
 | some u=>exact ⟨u,rfl,r⟩
section
variable {P:Program} {w:World} {H H':Hp} {h h':Heap} {a C dx:Addr} {fs fs':List (Str×V)}
theorem Uh (hok:Dm P w H h) (e:H a=some (.ins C dx fs)):∃ mA,ObjM h a dx C mA/\(∀ f,Gq (fs.lookup f) (mA f))/\PySem.Within mA (fs.map (·.1))/\fs.length<=1000/\H dx=some (.own a):=by
 obtain ⟨d,z,ne,ob,mA,n,r,q⟩:=(show Ah P w H h a (.ins C dx fs) from hok a _ e);exact ⟨mA,⟨ob,n,ne⟩,r,q,z,d⟩
end
structure Cls (K:W.Frag) (C:Addr):Prop where
 pg:W.plainGet K C Str.empty=true
 hd:W.hasDictIn K C=true
 po:W.plainOver K C=true
 sa:W.findIn K (.ref C) "__setattr__" = some (some (.builtin "object.__setattr__"))
theorem Cls.get {K:W.Frag} {C:Addr} (c:Cls K C) (f:Str):W.plainGet K C f=true:=c.pg
section
end
section
end
section
variable {X:Cx} {pins:List (Addr×Obj)} {σ:St} {H:Hp} {s:Shared} {A:Around} {E:Value->Shared->Prop} {Q:Value->Shared->Prop} {c:Value} {b:Bool}
inductive TyOf (K:W.Frag) (H:Hp):V->Value->Prop where
  | non:TyOf K H .non (.type "NoneType")
  | bl (x:Bool):TyOf K H (.bl x) (.type "bool")
  | int (i:Int):TyOf K H (.int i) (.type "int")
  | str (x:Str):TyOf K H (.str x) (.type "str")
  | flt (x:UInt64):TyOf K H (.flt x) (.type "float")
  | lst {a:Addr} {xs:List V} (e:H a=some (.lst xs)):TyOf K H (.ref a) (.type "list")
  | frz {a:Addr} {o:Obj} {xs:List V} (e:H a=some (.frz o (.lst xs))):TyOf K H (.ref a) (.type "list")
  | tup {a:Addr} {xs:List V} (e:H a=some (.tup xs)):TyOf K H (.ref a) (.type "tuple")
  | dK {a:Addr} {kvs:List (Av×V)} (e:H a=some (.dK kvs)):TyOf K H (.ref a) (.type "dict")
  | dT {a:Addr} {kvs:List (List Av×V)} (e:H a=some (.dT kvs)):TyOf K H (.ref a) (.type "dict")
  | ins {a C dx:Addr} {fs:List (Str×V)} (e:H a=some (.ins C dx fs)) (cl:Cls K C) (ha:W.findIn K (.ref C) "__class__" = some (some (.builtin "object.__class__")))
      (hn:W.specialIn K (.builtin "object.__class__") "__get__" = some (some (.builtin "getset_descriptor.__get__"))) (htk:W.takesIn K (.builtin "object.__class__")=some true)
      (hm:W.mroIn K C (.type "object")=some true):TyOf K H (.ref a) (.ref C)
theorem Nr {x:V} {u t:Value} (I:Inv X pins σ H s) (rx:RelV x u) (ty:TyOf X.K H x t) (e:W.kitOne X.K t c=some b) (h:∀ tk,Q (.bool b) { s with toks:=tk }) :
    wpAny (model X.prog X.w) A (call (.builtin "isinstance") [u,c]) Q E s:=by
  cases ty with
  | non=>cases (show u=Value.none from rx);exact W.kia_one W.kitx_none I.kIn True.intro e (fun z=>nomatch z) h
  | bl y=>cases (show u=Value.bool y from rx);exact W.kia_one W.kitx_bool I.kIn True.intro e (fun z=>nomatch z) h
  | int i=>obtain ⟨t,q⟩:=(show ∃ t,u=Value.int i t from rx);cases q;exact W.kia_one W.kitx_int I.kIn True.intro e (fun z=>nomatch z) h
  | str y=>obtain ⟨t,q⟩:=(show ∃ t,u=Value.str y t from rx);cases q;exact W.kia_one W.kitx_str I.kIn True.intro e (fun z=>nomatch z) h
  | flt y=>obtain ⟨t,q⟩:=(show ∃ t,u=Value.float y t from rx);cases q;exact W.kia_one W.kitx_float I.kIn True.intro e (fun z=>nomatch z) h
  | @lst a xs ea =>
    cases (show u=Value.ref a from rx);obtain ⟨_,_,n,_,h1⟩:=(show Ah X.prog X.w H s.heap a (.lst xs) from I.hok a _ ea);exact W.kia_one W.kitx_list I.kIn ⟨_,h1,rfl⟩ e (fun z=>nomatch z) h
  | @frz a ob xs ea =>
    cases (show u=Value.ref a from rx);obtain ⟨_,_,_,n,_,h1⟩:=(show Ah X.prog X.w H s.heap a (.frz ob (.lst xs)) from I.hok a _ ea);exact W.kia_one W.kitx_list I.kIn ⟨_,h1,rfl⟩ e (fun z=>nomatch z) h
  | @tup a xs ea =>
    cases (show u=Value.ref a from rx);obtain ⟨_,_,_,p⟩:=(show Ah X.prog X.w H s.heap a (.tup xs) from I.hok a _ ea);obtain ⟨o,h1,h2,_⟩:=p;exact W.kia_one W.kitx_tuple I.kIn ⟨o,h1,h2⟩ e (fun z=>nomatch z) h
  | @dK a kvs ea =>
    cases (show u=Value.ref a from rx);obtain ⟨_,_,vs,_,p⟩:=(show Ah X.prog X.w H s.heap a (.dK kvs) from I.hok a _ ea);obtain ⟨o,es,ep,h1,h2,_⟩:=p;exact W.kia_one W.kitx_dict I.kIn ⟨o,h1,h2.1⟩ e (fun z=>nomatch z) h
  | @dT a kvs ea =>
    cases (show u=Value.ref a from rx);obtain ⟨_,_,xs,_,o,es,ep,h1,h2,_⟩:=(show Ah X.prog X.w H s.heap a (.dT kvs) from I.hok a _ ea);exact W.kia_one W.kitx_dict I.kIn ⟨o,h1,h2.1⟩ e (fun z=>nomatch z) h
  | @ins a C dx fs ea cl ha hn htk hm =>
    cases (show u=Value.ref a from rx);obtain ⟨mA,O,_⟩:=Uh I.hok ea;obtain ⟨od,J,_⟩:=O.look;exact W.kia_one (W.kitx_own (cl.get _) cl.hd ha hn htk hm) I.kIn J e (fun z=>nomatch z) h
end
structure Room (k:Nat) (A:Around):Prop where
 hd:A.handled=none
 dp:A.depth+3 * k+5 < recursionLimit
 un:A.units+16 * k+200 < cLine
 gd:A.guards=some []
theorem Room.mono {j k:Nat} {A:Around} (r:Room k A) (h:j<=k):Room j A:=⟨r.hd,by have:=r.dp;omega,by have:=r.un;omega,r.gd⟩
theorem Room.deeper {k:Nat} {A:Around} (r:Room (k+1) A) (env:Env):Room k (A.deeper env):=
 ⟨r.hd,by have:=r.dp;show A.depth+1+3 * k+5 < _;omega,by have:=r.un;show A.units+3+16 * k+200 < _;omega,r.gd⟩
theorem Room.depth {k:Nat} {A:Around} (r:Room k A):A.depth < recursionLimit:=by have:=r.dp;omega
abbrev TM:TA:=fun _ H Q=>Q [] H
abbrev WC (ta:TE) (tr:TA):TA:=fun σ H Q=>ta σ H fun x H1=>tr σ H1 fun xs H2=>Q (x::xs) H2
section
variable {X:Cx} {e:Expr} {es:List Expr} {te:TE} {t:TA} {pos:Pos}
theorem Qa:PA X [] TM:=fun _ _ _ _ H Q I h=>Calls.spliced_nil ⟨[],H,I,.nil,h⟩
theorem EH (ha:PE X e te) (hr:PA X es t) (hs:starEach (e::es) X.env=(false,eval e X.env)::starEach es X.env:=by rfl):PA X (e::es) (WC te t):=by
 intro pos pins s σ H Q I h;rw [hs];show wpAny _ _ (spliced ((false,eval e X.env)::backTo pos (starEach es X.env))) _ _ s;refine Calls.spliced_cons (Al (ha pins s σ H _ I h) fun u s1 ⟨x,H1,I1,r1,q1⟩=>?_);exact Al (hr pos pins s1 σ H1 _ I1 q1) fun us s2 ⟨xs,H2,I2,r2,q2⟩=>⟨x::xs,H2,I2,.cons r1 r2,q2⟩
abbrev eN (t:TA):TE:=fun σ H Q=>t σ H fun xs H1=>xs.length<=sizeLine/\∀ p,H1 p=none->Q (.ref p) (upd H1 p (.tup xs))
abbrev eS (t:TA):TE:=fun σ H Q=>t σ H fun xs H1=>xs.length<=sizeLine/\∀ p,H1 p=none->Q (.ref p) (upd H1 p (.lst xs))
theorem YF {x1} (h:PA X es t):PE X (.Tuple es x1 pos) (eN t):=by
 intro pins s σ H Q I hq;refine wpAny_Tuple_spliced (Al (h pos pins s σ H _ I hq) fun us s1 ⟨xs,H1,I1,r,z,q⟩=>⟨by rw [<- r.length];exact z,?_⟩);have hf:H1 s1.heap.objs.size=none:=I1.hok.fresh (Nat.le_refl _);refine ⟨.ref s1.heap.objs.size,upd H1 s1.heap.objs.size (.tup xs),I1.laid (t':=s1.toks) (fun b u e=>Heap.get?_push_of_some _ e) (Nat.le_refl _) ?_,rfl,q _ hf⟩;exact ⟨z,us,r,⟨_,Heap.get?_push_size _ rfl,rfl,rfl,_,rfl⟩⟩
theorem YK (h:PA X es t):PE X (.List es pos) (eS t):=by
 intro pins s σ H Q I hq;refine wpAny_List_spliced (Al (h pos pins s σ H _ I hq) fun us s1 ⟨xs,H1,I1,r,z,q⟩=>⟨by rw [<- r.length];exact z,?_⟩);have hf:H1 s1.heap.objs.size=none:=I1.hok.fresh (Nat.le_refl _);refine ⟨.ref s1.heap.objs.size,upd H1 s1.heap.objs.size (.lst xs),I1.laid (t':=s1.toks) (fun b u e=>Heap.get?_push_of_some _ e) (Nat.le_refl _) ?_,rfl,q _ hf⟩;exact ⟨z,us,0,r,Heap.get?_push_size _ rfl⟩
end
abbrev Sp:=List V->Hp->VK->XK->Prop
abbrev Sq:=List Env->Hp->Shared->XK->Value->Shared->Prop
structure Env0 (P:Program) (w:World) (K:W.Frag) (mg:Str->Option Value) (base:Heap) (A:Around) (outer:List Env) (s:Shared) (H:Hp):Prop where
 frames:A.frames=some outer
 mod:Mod K mg base
 bs:∀ b o,base.get? b=some o->s.heap.get? b=some o/\H b=none
 bsz:base.objs.size<=s.heap.objs.size
 funs:s.heap.FunFrames base outer
 frf:∀ b∈Mb outer,H b=none
 hok:Dm P w H s.heap
 bare:AllBare s.gens
def CE (outer:List Env) (P:Program) (w:World) (H:Hp) (s:Shared) (Q:VK) (u:Value) (s':Shared):Prop:=
 ∃ v H',s'.os=s.os/\AllBare s'.gens/\Un (Mb outer) [] H H' s.heap s'.heap/\Dm P w H' s'.heap/\RelV v u/\Q v H'
def CR (CX:Sq) (outer:List Env) (P:Program) (w:World) (H:Hp) (s:Shared) (Q:VK) (E:XK) (r:Result) (s':Shared):Prop:=
 match r with
 | .ok (.ret u)=>CE outer P w H s Q u s'
 | .ok _=>False
 | .error e=>CX outer H s E e s'
structure FnOk (P:Program) (w:World) (K:W.Frag) (mg:Str->Option Value) (base:Heap) (CX:Sq) (k:Nat) (f:Addr) (fd:FuncData) (ps:List Str) (sp:Sp):Prop where
 len:∀ vs H Q E,sp vs H Q E->vs.length=ps.length
 run:∀ (A:Around) (outer:List Env) (s:Shared) (H:Hp) (args:Args) (us:List Value) (vs:List V) (Q:VK) (E:XK),Room k A->Env0 P w K mg base A outer s H->BindsTo s fd args (ps.zip us)->AE vs us->sp vs H Q E ->
  codeAny (model P w) A (.call (.ref f) args) (CR CX outer P w H s Q E) s
theorem FnOk.imp {P:Program} {w:World} {K:W.Frag} {mg:Str->Option Value} {base:Heap} {CX:Sq} {k:Nat} {f:Addr} {fd:FuncData} {ps:List Str} {sp sp':Sp} (F:FnOk P w K mg base CX k f fd ps sp)
    (h:∀ vs H Q E,sp' vs H Q E->sp vs H Q E):FnOk P w K mg base CX k f fd ps sp':=
  ⟨fun vs H Q E q=>F.len vs H Q E (h _ _ _ _ q),fun A outer s H args us vs Q E hr he hb hv hs=>F.run A outer s H args us vs Q E hr he hb hv (h _ _ _ _ hs)⟩
section
variable {X:Cx} {pins:List (Addr×Obj)} {σ:St} {H:Hp} {s s':Shared}
theorem Inv.env0 (I:Inv X pins σ H s):Env0 X.prog X.w X.K X.mg X.base X.A X.stack s H:=
 ⟨I.ok.frames,I.ok.mod,I.bs,Nat.le_trans I.ok.bsz I.sz,I.stack,I.stkFree,I.hok,I.bare⟩
theorem Inv.after {Q:VK} {u:Value} (I:Inv X pins σ H s) (h:CE X.stack X.prog X.w H s Q u s'):EP X pins σ Q u s':=by
 obtain ⟨v,H',os,bare,un,hok,r,q⟩:=h;obtain ⟨hh,g,d,t,os'⟩:=s';obtain rfl:os'=s.os:=os;exact ⟨v,H',I.call (h':=hh) (g':=g) (d':=d) (t':=t) (ch:=[]) un hok bare (fun b z=>absurd z (by simp)),r,q⟩
end
abbrev WD (sp:Sp) (dvs:List V) (E:XK) (t:TA):TE:=fun σ H Q=>t σ H fun vs H1=>sp (vs++dvs) H1 Q E
def Binds (K:W.Frag) (fd:FuncData) (ps:List Str) (ds:List Value):Prop:=
 ∀ (s:Shared) (us:List Value),K.In s.heap->(us++ds).length=ps.length->BindsTo s fd ⟨us,[]⟩ (ps.zip (us++ds))
theorem Binds.all {K:W.Frag} {fd:FuncData} {ps:List Str} (h:∀ us:List Value,us.length=ps.length->bindArgs fd ⟨us,[]⟩=pure (ps.zip us)):Binds K fd ps []:=fun s us _ hl=>by
 rw [List.append_nil] at hl ⊢;exact .of_eq (h us hl)
def Iw (CX:Sq) (X:Cx) (E:XK):Prop:=∀ (pins:List (Addr×Obj)) (σ:St) (H:Hp) (s:Shared) (e:Value) (s':Shared),Inv X pins σ H s->CX X.stack H s E e s'->X.xe e s'
section
variable {X:Cx} {CX:Sq} {k:Nat} {f C:Addr} {fd:FuncData} {ps:List Str} {sp:Sp} {dvs:List V} {ds:List Value} {E:XK} {x m:Str} {p pos apos:Pos} {e o:Expr} {es:List Expr} {ta:TE} {t:TA}
theorem Pt {pins:List (Addr×Obj)} {σ:St} {H:Hp} {s:Shared} {Q:VK} {us:List Value} {vs:List V} (F:FnOk X.prog X.w X.K X.mg X.base CX k f fd ps sp) (hr:Room k X.A) (hb:Binds X.K fd ps ds) (hd:AE dvs ds) (hx:Iw CX X E)
    (I:Inv X pins σ H s) (r:AE vs us) (h:sp (vs++dvs) H Q E):wpAny (model X.prog X.w) X.A (call (.ref f) us) (EP X pins σ Q) X.xe s:=by
  have r2:AE (vs++dvs) (us++ds):=r.append hd;have hl:(us++ds).length=ps.length:=by rw [<- r2.length];exact F.len _ _ _ _ h
  refine wpAny_call (codeAny_mono (F.run X.A X.stack s H ⟨us,[]⟩ (us++ds) (vs++dvs) Q E hr I.env0 (hb s us I.kIn hl) r2 h) fun r s' hq=>?_);cases r with
  | error e=>exact hx pins σ H s e s' I hq
  | ok fl =>
    cases fl with
    | ret u=>exact I.after hq
    | next=>exact False.elim hq
    | brk=>exact False.elim hq
    | cont=>exact False.elim hq
theorem UK (F:FnOk X.prog X.w X.K X.mg X.base CX k f fd ps sp) (hr:Room k X.A) (hg:Gl X x) (hm:X.mg x=some (.ref f)) (hk:W.keepIn X.K (.ref f)=true) (hb:Binds X.K fd ps ds) (hd:AE dvs ds) (hx:Iw CX X E)
    (ha:PA X (e::es) t) (hdb:(x == ("__debug__" : Str))=false:=by decide) (he:starEach (e::es) X.env=(false,eval e X.env)::starEach es X.env:=by rfl) (hpl:(backTo pos (starEach es X.env)).any (·.1)=false:=by rfl) :
    PE X (.Call (.Name x p) (e::es) [] pos) (WD sp dvs E t):=by
  intro pins s σ H Q I h;refine wpAny_Call_Name_kw (IX I hg hm ?_ hdb);refine W.callWith_K (h₀:=X.base) I.ok.mod.kin hk (Al (ha pos pins s σ H _ I h) fun us s1 ⟨vs,H1,I1,r,q⟩=>⟨I1.kIn,?_⟩) he hpl;exact Pt F hr hb hd hx I1 r q
theorem QX (F:FnOk X.prog X.w X.K X.mg X.base CX k f fd ps sp) (hr:Room k X.A) (hg:Gl X x) (hm:X.mg x=some (.ref f)) (hk:W.keepIn X.K (.ref f)=true) (hb:Binds X.K fd ps ds) (hd:AE dvs ds) (hx:Iw CX X E)
    (hdb:(x == ("__debug__" : Str))=false:=by decide):PE X (.Call (.Name x p) [] [] pos) (WD sp dvs E TM):=by
  intro pins s σ H Q I h;refine wpAny_Call_Name_kw (IX I hg hm ?_ hdb);exact W.callWith_K0 I.kIn hk (Pt (us:=[]) F hr hb hd hx I .nil h)
end
section
end
structure FnScope (N P:List Str) (sc:Scope):Prop where
 kind:sc.kind=.function
 co:sc.isCoroutine=false
 gen:sc.isGenerator=false
 nd:N.Nodup
 pre:N.take P.length=P
 par:∀ x∈P,sc.names.lookup x=some .local\/sc.names.lookup x=some .cell
 nofree:∀ y∈sc.names,y.2≠.free
theorem Hv {kindOf:Str->Option NameKind} {x:Str}:∀ {binds:List (Str×Value)} {m:Str->Option Value},(∀ v,(x,v)∉binds)->bindL kindOf binds m x=m x
 | [],_,_=>rfl
 | (n,v)::r,m,h=>by
  unfold bindL;rw [Hv fun w hw=>h w (List.mem_cons_of_mem _ hw)];split
  ·have:x≠n:=by rintro rfl;exact h v List.mem_cons_self
   simp [this]
  ·rfl
theorem Hx {kindOf:Str->Option NameKind} {x:Str}:∀ {binds:List (Str×Value)} {m:Str->Option Value},(∀ v,(x,v)∉binds)->bindC kindOf binds m x=m x
 | [],_,_=>rfl
 | (n,v)::r,m,h=>by
  unfold bindC;rw [Hx fun w hw=>h w (List.mem_cons_of_mem _ hw)];split
  ·rfl
  ·have:x≠n:=by rintro rfl;exact h v List.mem_cons_self
   simp [this]
theorem Hw {kindOf:Str->Option NameKind} {x:Str} {v:Value}:∀ {P:List Str} {vs:List Value} {i:Nat} {m:Str->Option Value},P.Nodup->P[i]?=some x->vs[i]?=some v->kindOf x=some .local ->
    bindL kindOf (P.zip vs) m x=some v
  | [],_,_,_,_,h,_,_=>by simp at h
  | _::_,[],_,_,_,_,h,_=>by simp at h
  | p::P,w::vs,0,m,nd,h1,h2,hk=>by
    simp at h1 h2;subst h1;subst h2;show bindL kindOf ((p,w)::P.zip vs) m p=_;unfold bindL;rw [Hv fun v hv=>(List.nodup_cons.mp nd).1 (List.of_mem_zip hv).1,if_pos hk];simp
  | p::P,w::vs,i+1,m,nd,h1,h2,hk=>by
    show bindL kindOf ((p,w)::P.zip vs) m x=_;unfold bindL;exact Hw (i:=i) (List.nodup_cons.mp nd).2 (by simpa using h1) (by simpa using h2) hk
theorem Hy {kindOf:Str->Option NameKind} {x:Str} {v:Value}:∀ {P:List Str} {vs:List Value} {i:Nat} {m:Str->Option Value},P.Nodup->P[i]?=some x->vs[i]?=some v->kindOf x≠some .local ->
    bindC kindOf (P.zip vs) m x=some v
  | [],_,_,_,_,h,_,_=>by simp at h
  | _::_,[],_,_,_,_,h,_=>by simp at h
  | p::P,w::vs,0,m,nd,h1,h2,hk=>by
    simp at h1 h2;subst h1;subst h2;show bindC kindOf ((p,w)::P.zip vs) m p=_;unfold bindC;rw [Hx fun v hv=>(List.nodup_cons.mp nd).1 (List.of_mem_zip hv).1,if_neg hk];simp
  | p::P,w::vs,i+1,m,nd,h1,h2,hk=>by
    show bindC kindOf ((p,w)::P.zip vs) m x=_;unfold bindC;exact Hy (i:=i) (List.nodup_cons.mp nd).2 (by simpa using h1) (by simpa using h2) hk
def start (N:List Str) (vs:List V):St:=vs.map some++List.replicate (N.length - vs.length) none
def KG (CX:Sq) (P:Program) (w:World) (K:W.Frag) (mg:Str->Option Value) (base:Heap) (N:List Str) (qual:Str) (scope:Scope) (f:Addr) (cd:Value) (A:Around) (outer:List Env) (s:Shared) (H:Hp) (E:XK):Cx where
 prog:=P
 w:=w
 K:=K
 mg:=mg
 base:=base
 A:=A.deeper (envOfC qual scope s.heap.objs.size f cd)
 N:=N
 s₀:=s
 H₀:=H
 env:=envOfC qual scope s.heap.objs.size f cd
 outer:=outer
 stack:=envOfC qual scope s.heap.objs.size f cd::outer
 ex:=[]
 calm:=true
 fn:=fun _=>true
 pn:=[]
 xe:=fun e s'=>wpAny (model P w) (A.deeper (envOfC qual scope s.heap.objs.size f cd)) (leaving (envOfC qual scope s.heap.objs.size f cd) e) (fun _ s''=>CX outer H s E e s'') (fun e' s''=>CX outer H s E e' s'') s'
theorem KJ {sc:Scope} {n:Nat} {x:Str} (h:sc.names.lookup x=some .cell):∃ c,(cellsFrom n sc.names []).lookup x=some c:=by
 have q:=W.cellsFrom_some sc.names n [] (.inl h);exact Option.isSome_iff_exists.mp q
theorem Nv {CX:Sq} {P:Program} {w:World} {K:W.Frag} {mg:Str->Option Value} {base:Heap} {N ps:List Str} {qual:Str} {scope:Scope} {f:Addr} {cd:Value} {A:Around} {outer:List Env} {s s1:Shared} {H:Hp} {E:XK} {us:List Value} {vs:List V}
    (S:FnScope N ps scope) (hd:A.handled=none) (e0:Env0 P w K mg base A outer s H) (hl:vs.length=ps.length) (r:AE vs us)
    (x:InCallC s s.heap.objs.size (bindL (envOfC qual scope s.heap.objs.size f cd).kindOf (ps.zip us) fun _=>none) (cellsFrom (s.heap.objs.size+1) scope.names []) (bindC (envOfC qual scope s.heap.objs.size f cd).kindOf (ps.zip us) fun _=>none) s1) :
    Inv (KG CX P w K mg base N qual scope f cd A outer s H E) [] (start N vs) H s1:=by
  have hpl:ps.length<=N.length:=by have:=congrArg List.length S.pre;rw [List.length_take] at this;omega
  obtain ⟨h1,tk,rfl,hk⟩:=x.done;have noA:∀ b:Addr,b∉(KG CX P w K mg base N qual scope f cd A outer s H E).ex:=fun b z=>absurd (show b∈([]:List Addr) from z) (by simp)
  refine ⟨⟨e0.mod,S.kind,rfl,rfl,Nat.le_refl _,fun y z c h1 h2=>?_,fun y hy=>?_,fun y c _ h=>?_,fun _=>hd,Around.frames_deeper e0.frames,.inr ⟨rfl,rfl⟩,fun b z=>absurd z (noA b),e0.bs,e0.bsz,fun b _ _=>noA b,fun b z=>absurd z (noA b),e0.funs,e0.frf⟩,
    rfl,e0.bare,Un.kept hk,⟨_,x.toInCall.ns,fun i y v h1 h2 h3=>?_⟩,fun y c h=>⟨_,x.cell y c h⟩,e0.hok.fresh (Nat.le_refl _),fun y c h=>?_,fun p hp=>absurd (show p∈([]:List (Addr×Obj)) from hp) (by simp),e0.hok.kept hk,?_⟩
  · exact name_of_addr x.apart (PySem.mem_of_lookup h1) (PySem.mem_of_lookup h2)
  · have hy:scope.names.lookup y=some .cell\/scope.names.lookup y=some .free:=hy;rcases hy with hy | hy
    · exact KJ hy
    · exact absurd rfl (S.nofree _ (PySem.mem_of_lookup hy))
  · exact Nat.le_of_lt (x.above y c (PySem.mem_of_lookup h))
  · have hi:i < vs.length:=by
      unfold start at h2
      by_cases hi:i < vs.length
      · exact hi
      · rw [List.getElem?_append_right (by simpa using hi)] at h2;rw [List.getElem?_replicate] at h2;split at h2<;>cases h2
    have ha:vs[i]?=some v:=by
      unfold start at h2;rw [List.getElem?_append_left (by simpa using hi),List.getElem?_map] at h2;cases e:vs[i]? with
      | none=>rw [e] at h2;cases h2
      | some a=>rw [e] at h2;cases h2;rfl
    obtain ⟨u,hu,rv⟩:=r.get ha;have hp:ps[i]?=some y:=by
      rw [<- S.pre,List.getElem?_take_of_lt (by omega)];exact h1
    have ndP:ps.Nodup:=by rw [<- S.pre];exact S.nd.sublist (List.take_sublist _ _)
    refine ⟨u,rv,?_⟩;rcases S.par y (List.mem_of_getElem? hp) with k | k
    · exact .inl ⟨k,Hw ndP hp hu k⟩
    · obtain ⟨c,e⟩:=KJ (n:=s.heap.objs.size+1) k;refine .inr ⟨.inl k,c,e,?_⟩;have q:=x.cell y c e;rw [Hy ndP hp hu (by show scope.names.lookup y≠_;rw [k];decide)] at q;exact q
  · exact e0.hok.fresh (Nat.le_of_lt (x.above y c (PySem.mem_of_lookup h)))
  · unfold start;show _=N.length;rw [List.length_append,List.length_map,List.length_replicate];omega
theorem cP {CX:Sq} {P:Program} {w:World} {K:W.Frag} {mg:Str->Option Value} {base:Heap} {k:Nat} {f:Addr} {name qual:Str} {params:Arguments} {body:List Stmt} {scope:Scope} {dV kV doc pm cdv ct oc:Value} {an od:Option Addr}
    {osl:Array (Option Value)} {N ps:List Str} {sp:Sp} (lk:K.lookup f=some ⟨oc,od,.func (W.fnOf name qual params body scope dV kV doc pm an cdv ct),osl⟩) (hcd:W.codeIn K cdv qual=true) (S:FnScope N ps scope)
    (len:∀ vs H Q E,sp vs H Q E->vs.length=ps.length)
    (hbody:∀ (A:Around) (outer:List Env) (s:Shared) (H:Hp) (vs:List V) (Q:VK) (E:XK),Room k (A.deeper (envOfC qual scope s.heap.objs.size f cdv))->sp vs H Q E ->
      ∃ t,Ce (KG CX P w K mg base N qual scope f cdv A outer s H E) body t/\t { nx:=fun _ H'=>Q .non H',rt:=Q } (start N vs) H) :
    FnOk P w K mg base CX (k+1) f (W.fnOf name qual params body scope dV kV doc pm an cdv ct) ps sp:=by
  refine ⟨len,fun A outer s H args us vs Q E hr e0 hb r hsp=>?_⟩;have hl:=len _ _ _ _ hsp;have KX:K.In s.heap:=e0.mod.kin.keeps fun b o e=>(e0.bs b o e).1
  have lim:s.heap.NoLimit:=e0.mod.nolimit.keeps fun b o e=>(e0.bs b o e).1
  have hkind:∀ y∈ps.zip us,scope.names.lookup y.1=some .local\/(scope.names.lookup y.1=some .cell/\((cellsFrom (s.heap.objs.size+1) scope.names []).lookup y.1).isSome=true):=fun ⟨n,v⟩ hy=>by
    rcases S.par n (List.of_mem_zip hy).1 with q | q
    · exact .inl q
    · exact .inr ⟨q,W.cellsFrom_some _ _ _ (.inl q)⟩
  refine codeAny_call_function hr.depth (KX _ _ lk) rfl S.co S.gen rfl (W.codeRec_of KX hcd) (hb _ _ _ _ ?_);refine wpAny_newFunctionEnv_cells S.kind hkind fun env he s1 x=>?_
  subst he;refine ⟨lim.keeps x.toInCall.keep,codeAny_func ?_⟩;obtain ⟨t,ht,hq⟩:=hbody A outer s H vs Q E (hr.deeper _) hsp;have I:Inv (KG CX P w K mg base N qual scope f cdv A outer s H E) [] (start N vs) H s1:=Nv S hr.hd e0 hl r x;refine wpAny_mono (ht [] s1 (start N vs) H _ I hq) (fun fl s' hs=>?_) fun e s' hs=>hs
  have fin:∀ {σ':St} {H':Hp} {v:V} {u:Value},Inv (KG CX P w K mg base N qual scope f cdv A outer s H E) [] σ' H' s'->RelV v u->Q v H'->CE outer P w H s Q u s':=
    fun {σ' H' v u} J rv q=>⟨v,H',J.os,J.bare,J.base,J.hok,rv,q⟩
  cases fl with
  | ret u =>
    obtain ⟨v,σ',H',J,rv,q⟩:=hs;exact fin J rv q
  | next =>
    obtain ⟨σ',H',J,q⟩:=hs;exact fin (v:=V.non) (u:=Value.none) J rfl q
  | brk =>
    obtain ⟨_,_,_,q⟩:=hs;exact False.elim q
  | cont =>
    obtain ⟨_,_,_,q⟩:=hs;exact False.elim q
section
variable {X:Cx} {x:Str} {p pos:Pos} {e:Expr} {es:List Expr} {t:TA} {id T:String} {r:List V->Hp->VK->Prop}
abbrev gB (r:List V->Hp->VK->Prop) (t:TA):TE:=fun σ H Q=>t σ H fun vs H1=>r vs H1 Q
theorem QW (hc:BE X (.builtin id) r) (hg:Gl X x) (hm:X.mg x=none) (hv:bootBuiltins x=some (.builtin id)) (ha:PA X (e::es) t) (hn:x ≠ "__name__" := by decide) (hdb:(x == ("__debug__" : Str))=false:=by decide)
    (he:starEach (e::es) X.env=(false,eval e X.env)::starEach es X.env:=by rfl) (hpl:(backTo pos (starEach es X.env)).any (·.1)=false:=by rfl):PE X (.Call (.Name x p) (e::es) [] pos) (gB r t):=by
  intro pins s σ H Q I h;refine wpAny_Call_Name_kw (CY I hg hm hv ?_ hn hdb);exact PyProof.Rows.callWith_builtin1 (Al (ha pos pins s σ H _ I h) fun us s1 ⟨vs,H1,I1,r1,q1⟩=>hc pins s1 σ H1 vs us Q I1 r1 q1) he hpl
theorem NX (hc:BE X (.type T) r) (hg:Gl X x) (hm:X.mg x=none) (hv:bootBuiltins x=some (.type T)) (ha:PA X (e::es) t) (hn:x ≠ "__name__" := by decide) (hdb:(x == ("__debug__" : Str))=false:=by decide)
    (he:starEach (e::es) X.env=(false,eval e X.env)::starEach es X.env:=by rfl) (hpl:(backTo pos (starEach es X.env)).any (·.1)=false:=by rfl):PE X (.Call (.Name x p) (e::es) [] pos) (gB r t):=by
  intro pins s σ H Q I h;refine wpAny_Call_Name_kw (CY I hg hm hv ?_ hn hdb);exact PyProof.Rows.callWith_type1 (Al (ha pos pins s σ H _ I h) fun us s1 ⟨vs,H1,I1,r1,q1⟩=>hc pins s1 σ H1 vs us Q I1 r1 q1) he hpl
end
end L2
namespace HT
open PySem PyProof.Rows
section
open PySem.SeqAt
open PySem.AutoSeq1 (wpAny_loadPart')
open PySem.MeetsSeq PySem.MeetsSeq2 PySem.MeetsSeq3
end
section
variable {prog:Program} {w:World} {A:Around} {E:Value->Shared->Prop} {s:Shared}
theorem cat_tup {t b:Addr} {vs ws:List Value} {Q:Value->Shared->Prop} (ht:IsTup s.heap t vs.toArray) (hb:IsTup s.heap b ws.toArray) (hv:vs≠[])
    (h1:ws=[]->Q (.ref t) s) (h2:ws≠[]->Q (.ref s.heap.objs.size) { s with heap:=s.heap.push { cls:=.type "tuple", data:=.seq (vs++ws).toArray } })
    (hsz:vs.length+ws.length<=sizeLine):wpAny (model prog w) A (binaryOp .Add (.ref t) (.ref b)) Q E s:=by
  obtain ⟨⟨cls,dd,data,sl⟩,ho,hc,n,hd⟩:=id ht;obtain ⟨⟨cls2,dd2,data2,sl2⟩,ho2,hc2,n2,hd2⟩:=id hb;simp only at hc hd hc2 hd2;subst hc hd hc2 hd2;have e:vs.toArray++ws.toArray=(vs++ws).toArray:=by simp
  by_cases hw:ws=[]
  · exact concat_meets ⟨_,ho,rfl⟩ ⟨_,ho2,rfl⟩ noFill_tuple_add seq_tuple_add PySem.F.slot_tuple_add PySem.F.entry_tuple_add (PySem.F.args_tuple_add_2 _ _)
      (tuple_addW1 t b vs.toArray ws.toArray n n2 dd dd2 sl sl2 (by simpa using hv) (by simp [hw])) ⟨ho,ho2,h1 hw⟩
  · refine concat_meets ⟨_,ho,rfl⟩ ⟨_,ho2,rfl⟩ noFill_tuple_add seq_tuple_add PySem.F.slot_tuple_add PySem.F.entry_tuple_add (PySem.F.args_tuple_add_2 _ _)
      (tuple_addW2 t b vs.toArray ws.toArray n n2 dd dd2 sl sl2 (by simpa using hv) (by simpa using hw) (by rw [List.size_toArray,List.size_toArray];exact hsz)) ⟨ho,ho2,?_⟩
    rw [e];exact h2 hw
noncomputable def sIx (n d:Nat):Option Int->Nat
 | none=>d
 | some v=>if v < 0 then (v+(n:Int)).toNat else min v.toNat n
theorem sIx_le (n d:Nat) (hd:d<=n) (o:Option Int):sIx n d o<=n:=by
 cases o with
 | none=>exact hd
 | some v =>
  show (if v < 0 then (v+(n:Int)).toNat else min v.toNat n)<=n
  by_cases hv:v < 0
  ·rw [if_pos hv];omega
  ·rw [if_neg hv];exact Nat.min_le_right _ _
theorem Mp (v:Int) (n d:Nat):(if v < 0 then max (v+(n:Int)) 0 else min v (n:Int))=((sIx n d (some v):Nat):Int):=by
 show (if v < 0 then max (v+(n:Int)) 0 else min v (n:Int))=(((if v < 0 then (v+(n:Int)).toNat else min v.toNat n):Nat):Int)
 by_cases hv:v < 0
 ·simp only [if_pos hv];omega
 ·simp only [if_neg hv];omega
theorem Lq (lo hi:Option Int) (n:Nat):Builtin.Slice.sliceAdjust lo hi 1 (n:Int)=(((sIx n 0 lo:Nat):Int),((sIx n n hi:Nat):Int)):=by
 have h1:¬ ((1:Int) < 0):=by omega
 unfold Builtin.Slice.sliceAdjust;simp only [h1,if_false];refine Prod.ext ?_ ?_
 ·cases lo with
  | none=>rfl
  | some v=>exact Mp v n 0
 ·cases hi with
  | none=>rfl
  | some v=>exact Mp v n n
theorem LB (i j:Nat):Builtin.Slice.slicePlaces (i:Int) (j:Int) 1=j - i:=by
 unfold Builtin.Slice.slicePlaces;have h1:(1:Int) > 0:=by omega
 simp only [h1,if_true,Int.ediv_one];split<;>omega
theorem Dd {v:Value} {o:Option Int} {Q:Option Int->Shared->Prop} (p:IsPart v o) (h:Q o s):wpAny (model prog w) A (Builtin.Slice.slicePartIndex v) Q E s:=by
 cases p with
 | none=>exact slicePart_none h
 | int i t=>exact slicePart_int h
theorem sliceApplied_gen {sl:Addr} {vl vu:Value} {lo hi:Option Int} {n:Nat} {Q:Int×Int×Nat->Shared->Prop} (hs:s.heap.IsSliceOf sl vl vu .none) (pl:IsPart vl lo) (pu:IsPart vu hi)
    (h:Q (((sIx n 0 lo:Nat):Int),1,sIx n n hi - sIx n 0 lo) s):wpAny (model prog w) A (Builtin.Slice.sliceApplied (.ref sl) (pure (n:Int))) Q E s:=by
  obtain ⟨os,hos,hcs,hds⟩:=id hs;unfold Builtin.Slice.sliceApplied Builtin.Slice.sliceFields;refine wpAny_bind (wpAny_bind (wpAny_field hos hds (x:=vl) rfl (wpAny_bind (wpAny_field hos hds (x:=vu) rfl (wpAny_bind (wpAny_field hos hds (x:=.none) rfl (wpAny_pure ?_)))))));refine wpAny_bind (slicePart_none ?_);show wpAny _ _ (if ((1:Int) == 0)=true then _ else _) _ _ s;rw [if_neg (by decide)];refine wpAny_bind (Dd pl (wpAny_bind (Dd pu (wpAny_bind (wpAny_pure ?_)))));show wpAny _ _ (match Builtin.Slice.sliceAdjust lo hi 1 (n:Int) with | (lo,hi)=>pure (lo,(1:Int),Builtin.Slice.slicePlaces lo hi 1)) _ _ s;rw [Lq lo hi n];show wpAny _ _ (pure (((sIx n 0 lo:Nat):Int),(1:Int),Builtin.Slice.slicePlaces ((sIx n 0 lo:Nat):Int) ((sIx n n hi:Nat):Int) 1)) _ _ s;rw [LB];exact wpAny_pure h
theorem QQ (xs:Array Value) (i k:Nat):((List.range k).filterMap fun (m:Nat)=>xs[((i:Int)+(m:Int) * 1).toNat]?).toArray=((xs.toList.drop i).take k).toArray:=by
 have e:(fun (m:Nat)=>xs[((i:Int)+(m:Int) * 1).toNat]?)=fun m=>xs[i+m]?:=by
  funext m;have:((i:Int)+(m:Int) * 1).toNat=i+m:=by omega
  rw [this]
 rw [e];have:=pick_run xs i k;rw [List.filterMap_map] at this;have e2:((fun x=>xs[x]?)∘fun x=>i+x)=fun m=>xs[i+m]?:=rfl
 rw [e2] at this;rw [this]
theorem getItem_tuple_cut {t sl:Addr} {items:Array Value} {vl vu:Value} {lo hi:Option Int} {Q:Value->Shared->Prop} (ht:IsTup s.heap t items) (hs:s.heap.IsSliceOf sl vl vu .none) (pl:IsPart vl lo) (pu:IsPart vu hi)
    (hw:¬ (sIx items.size 0 lo=0/\sIx items.size items.size hi=items.size))
    (h:Q (.ref s.heap.objs.size) { s with heap:=s.heap.push { cls:=.type "tuple", data:=.seq ((items.toList.drop (sIx items.size 0 lo)).take (sIx items.size items.size hi - sIx items.size 0 lo)).toArray } })
    (hsz:items.size<=sizeLine):wpAny (model prog w) A (getItem (.ref t) (.ref sl)) Q E s:=by
  have htake:sizeOk (.seq ((items.toList.drop (sIx items.size 0 lo)).take (sIx items.size items.size hi - sIx items.size 0 lo)).toArray):=by
    show ((items.toList.drop (sIx items.size 0 lo)).take (sIx items.size items.size hi - sIx items.size 0 lo)).toArray.size<=sizeLine;rw [List.size_toArray,List.length_take,List.length_drop,Array.length_toList];omega
  have hj:sIx items.size items.size hi<=items.size:=sIx_le _ _ (Nat.le_refl _) hi;obtain ⟨os,hos,hcs,hds⟩:=id hs
  have hTs:s.TypeIs (.ref sl) "slice" := ⟨os,hos,hcs⟩
  unfold getItem
  try with_reducible refine wpAny_holding ?_
  first | refine wpAny_bind (wpAny_pure ?_) | skip
  refine wpAny_bind (wpAny_sequenceKey ht.typeIs (by decide) ?_)
  refine wpAny_bind (wpAny_callSpecial?_slot (name:=Str.ofString "__getitem__") ht.typeIs PyProof.Rows.slot_tuple_getitem
    (wpAny_call_entry PyProof.Rows.slot_tuple_getitem ht.typeIs entry_tuple_getitem ?_ (args_tuple_getitem _ _)))
  show wpAny _ _ (Builtin.Tuple.tupleItemsOf (.ref t) >>= _) _ _ s;refine wpAny_bind (tupleItemsOf_ ht ?_);refine wpAny_bind (wpAny_typeOf hTs ?_);rw [if_pos (by decide)];refine wpAny_bind (sliceApplied_gen hs pl pu ?_);have hno:¬ ((((sIx items.size 0 lo:Nat):Int) == 0 && (1:Int) == 1 && (sIx items.size items.size hi - sIx items.size 0 lo) == items.size)=true):=by
    intro q;rw [Bool.and_eq_true,Bool.and_eq_true] at q;have q1:((sIx items.size 0 lo:Nat):Int)=0:=eq_of_beq q.1.1;have q2:sIx items.size items.size hi - sIx items.size 0 lo=items.size:=eq_of_beq q.2;exact hw ⟨by omega,by omega⟩
  show wpAny _ _ (if (((sIx items.size 0 lo:Nat):Int) == 0 && (1:Int) == 1 && (sIx items.size items.size hi - sIx items.size 0 lo) == items.size)=true then _ else _) _ _ s;rw [if_neg hno,QQ]
  first
    | exact wpAny_bind (m:=Builtin.Tuple.tupleExact _) (wpAny_newObj_type (wpAny_pure ⟨_,rfl,wpAny_pure h⟩) htake)
    | exact wpAny_bind (m:=Builtin.Tuple.tupleExact _) (wpAny_newObj_type (wpAny_bind (wpAny_pure (wpAny_pure ⟨_,rfl,wpAny_pure h⟩))) htake)
    | exact wpAny_bind (wpAny_bind (m:=Builtin.Tuple.tupleExact _) (wpAny_newObj_type (wpAny_pure (wpAny_pure ⟨_,rfl,wpAny_pure h⟩)) htake))
    | exact wpAny_bind (wpAny_bind (m:=Builtin.Tuple.tupleExact _) (wpAny_newObj_type (wpAny_pure ⟨_,rfl,wpAny_pure h⟩) htake))
end
end HT
namespace L2
open PySem PySem.Spec PyProof.Rows
abbrev TO:=St->Hp->(Option Int->Hp->Prop)->Prop
def PO (X:Cx) (e:Option Expr) (t:TO):Prop:=
 ∀ (pins:List (Addr×Obj)) (s:Shared) (σ:St) (H:Hp) (Q:Option Int->Hp->Prop),Inv X pins σ H s->t σ H Q ->
  wpAny (model X.prog X.w) X.A (evalPart e X.env) (fun u s'=>∃ o H',Inv X pins σ H' s'/\IsPart u o/\Q o H') X.xe s
abbrev TL:TO:=fun _ H Q=>Q none H
abbrev aR (t:TE):TO:=fun σ H Q=>t σ H fun x H1=>∃ i,x=.int i/\Q (some i) H1
theorem LO {ns:List Int}:∀ {us:List Value},AE (ns.map V.int) us->IntsAre us ns:=by
 induction ns with
 | nil=>intro us r;rw [List.map_nil] at r;cases r;exact .nil
 | cons n ns ih =>
  intro us r;rw [List.map_cons] at r;cases r with
  | cons r1 r2 =>
   obtain ⟨t,e⟩:=r1;subst e;exact .cons n t (ih r2)
section
variable {X:Cx} {e:Expr} {te:TE} {lo hi:Option Expr} {tl th:TO} {pos p2:Pos}
theorem UD:PO X none TL:=by
 intro pins s σ H Q I h;rw [evalPart_none];exact wpAny_pure ⟨none,H,I,.none,h⟩
theorem UC (h:PE X e te):PO X (some e) (aR te):=by
 intro pins s σ H Q I hw;rw [evalPart_some];refine Al (h pins s σ H _ I hw) fun u s1 ⟨x,H1,I1,r1,q1⟩=>?_
 obtain ⟨i,rfl,q⟩:=q1;obtain ⟨t,rfl⟩:=r1;exact ⟨some i,H1,I1,.int i t,q⟩
def Oo (X:Cx) (r:V->Option Int->Option Int->Hp->VK->Prop):Prop:=
 ∀ (pins:List (Addr×Obj)) (s:Shared) (σ:St) (H:Hp) (x:V) (v vl vu:Value) (lo hi:Option Int) (sl:Addr) (Q:VK),Inv X pins σ H s->RelV x v->s.heap.IsSliceOf sl vl vu .none->IsPart vl lo->IsPart vu hi->r x lo hi H Q ->
  ∃ T id,typeLookup (.type T) "__getitem__" = pure (some (.builtin id))/\s.TypeIs v T/\wpAny (model X.prog X.w) X.A (getItem v (.ref sl)) (EP X pins σ Q) X.xe s
theorem Oo.or {r r':V->Option Int->Option Int->Hp->VK->Prop} (h:Oo X r) (h':Oo X r'):Oo X (fun x lo hi H Q=>r x lo hi H Q\/r' x lo hi H Q):=by
 intro pins s σ H x v vl vu lo hi sl Q I rx hs pl pu q;rcases q with q | q
 ·exact h pins s σ H x v vl vu lo hi sl Q I rx hs pl pu q
 ·exact h' pins s σ H x v vl vu lo hi sl Q I rx hs pl pu q
abbrev fu (r:V->Option Int->Option Int->Hp->VK->Prop) (te:TE) (tl th:TO):TE:=fun σ H Q=>te σ H fun x H1=>tl σ H1 fun l H2=>th σ H2 fun u H3=>r x l u H3 Q
theorem QT {r:V->Option Int->Option Int->Hp->VK->Prop} (hr:Oo X r) (he:PE X e te) (hl:PO X lo tl) (hu:PO X hi th):PE X (.Subscript e (.Slice lo hi none p2) pos) (fu r te tl th):=by
 intro pins s σ H Q I h;refine Subscript_ (Al (he pins s σ H _ I h) fun v s1 ⟨x,H1,I1,r1,q1⟩=>?_);refine wpAny_Slice (Al (hl pins s1 σ H1 _ I1 q1) fun vl s2 ⟨l,H2,I2,pl,q2⟩=>Al (hu pins s2 σ H2 _ I2 q2) fun vu s3 ⟨u,H3,I3,pu,q3⟩=>?_);rw [evalPart_none];refine wpAny_pure ?_
 have I4:Inv X pins σ H3 { s3 with heap:=s3.heap.push { cls:=.type "slice", data:=.fields #[vl,vu,.none] } }:=I3.kept (t':=s3.toks) fun b ob q=>Heap.get?_push_of_some _ q
 obtain ⟨T,id,hT,ht,hg⟩:=hr pins { s3 with heap:=s3.heap.push { cls:=.type "slice", data:=.fields #[vl,vu,.none] } } σ H3 x v vl vu l u s3.heap.objs.size Q I4 r1 (Heap.IsSliceOf.new ..) pl pu q3
 show wpAny (model X.prog X.w) X.A (subscriptTail e (.Slice lo hi none p2) v (.ref s3.heap.objs.size)) (EP X pins σ Q) X.xe { s3 with heap:=s3.heap.push { cls:=.type "slice", data:=.fields #[vl,vu,.none] } }
 exact tail_any (ops:=[.ref s3.heap.objs.size,v]) ht hT hg (by with_unfolding_all rfl)
def EO (xs:List V) (lo hi:Option Int):List V:=(xs.drop (HT.sIx xs.length 0 lo)).take (HT.sIx xs.length xs.length hi - HT.sIx xs.length 0 lo)
theorem FL (xs:List V) (lo hi:Option Int):(EO xs lo hi).length<=xs.length:=by
 unfold EO;rw [List.length_take,List.length_drop];omega
def bF (K:W.Frag):V->Option Int->Option Int->Hp->VK->Prop:=fun x lo hi H Q=>∃ a xs,x=.ref a/\DY K H a xs /\
 ¬ (HT.sIx xs.length 0 lo=0/\HT.sIx xs.length xs.length hi=xs.length)/\∀ p,H p=none->Q (.ref p) (upd H p (.tup (EO xs lo hi)))
theorem XR:Oo X (bF X.K):=by
 intro pins s σ H x v vl vu lo hi sl Q I rx hs pl pu h;obtain ⟨a,xs,rfl,hx,hw,q⟩:=h;cases rx;obtain ⟨its,r,ht,hz⟩:=I.tuple hx;have hlen:its.toArray.size=xs.length:=by rw [List.size_toArray];exact r.length.symm
 refine ⟨"tuple", _,PyProof.Rows.slot_tuple_getitem.lookup,ht.typeIs,?_⟩
 refine HT.getItem_tuple_cut ht hs pl pu (by rw [hlen];exact hw) ?_ (by rw [hlen];exact hz);rw [hlen];refine ⟨.ref s.heap.objs.size,_,I.laid (t':=s.toks) (o:=.tup (EO xs lo hi)) (fun b ob q=>Heap.get?_push_of_some _ q) (Nat.le_refl _) ?_,rfl,q _ (I.hok.fresh (Nat.le_refl _))⟩;exact ⟨Nat.le_trans (FL xs lo hi) hz,_,(r.drop (HT.sIx xs.length 0 lo)).take (HT.sIx xs.length xs.length hi - HT.sIx xs.length 0 lo),HC.new _ _⟩
def WN (K:W.Frag):R2:=fun x y H Q=>∃ a b xs ys,x=.ref a/\y=.ref b/\DY K H a xs/\DY K H b ys/\xs≠[]/\xs.length+ys.length<=sizeLine /\
 (ys=[]->Q (.ref a) H)/\(ys≠[]->∀ p,H p=none->Q (.ref p) (upd H p (.tup (xs++ys))))
theorem AE.nil_iff {xs:List V} {us:List Value} (r:AE xs us):us=[]↔xs=[]:=by
 cases r with
 | nil=>simp
 | cons _ _=>simp
theorem UQ:Bx X (binaryOp .Add) (WN X.K):=by
 intro pins s σ H x y v u Q I rx ry h;obtain ⟨a,b,xs,ys,rfl,rfl,ha,hb,hx,hz,q1,q2⟩:=h;cases rx;cases ry;obtain ⟨its,r1,p1,_⟩:=I.tuple ha;obtain ⟨its2,r2,p2,_⟩:=I.tuple hb;refine HT.cat_tup p1 p2 (fun z=>hx (r1.nil_iff.mp z)) (fun z=>⟨.ref a,H,I,rfl,q1 (r2.nil_iff.mp z)⟩) (fun z=>?_) (by rw [<- r1.length,<- r2.length];exact hz);refine ⟨.ref s.heap.objs.size,_,I.laid (t':=s.toks) (o:=.tup (xs++ys)) (fun b ob q=>Heap.get?_push_of_some _ q) (Nat.le_refl _) ?_,rfl,q2 (fun w=>z (r2.nil_iff.mpr w)) _ (I.hok.fresh (Nat.le_refl _))⟩;exact ⟨by rw [List.length_append];exact hz,_,r1.append r2,HC.new _ _⟩
end
noncomputable def Jo (n:Nat) (i:Int):Option Nat:=if 0<=i then (if i < n then some i.toNat else none) else if -(n:Int)<=i then some (i+n).toNat else none
def DV {α:Type} (xs:List α) (i:Int):Option α:=(Jo xs.length i).bind fun j=>xs[j]?
theorem MY {n:Nat} {i:Int} {j:Nat} (h:Jo n i=some j):seqIndex? i n=some j/\j < n/\-(n:Int)<=i/\i < n:=by
 unfold Jo at h
 by_cases h0:0<=i
 ·rw [if_pos h0] at h
  by_cases h1:i < n
  ·rw [if_pos h1] at h;have e:i.toNat=j:=Option.some.inj h;exact ⟨by rw [seqIndex_of h0 h1,e],by omega,by omega,h1⟩
  ·rw [if_neg h1] at h;cases h
 ·rw [if_neg h0] at h
  by_cases h1:-(n:Int)<=i
  ·rw [if_pos h1] at h;have e:(i+n).toNat=j:=Option.some.inj h;exact ⟨by rw [seqIndex_neg (by omega) h1,e],by omega,h1,by omega⟩
  ·rw [if_neg h1] at h;cases h
theorem Iu {α:Type} {xs:List α} {i:Int} {v:α} (h:DV xs i=some v):∃ j,seqIndex? i xs.length=some j/\xs[j]?=some v/\j < xs.length/\-(xs.length:Int)<=i/\i < xs.length:=by
 unfold DV at h;cases e:Jo xs.length i with
 | none=>rw [e] at h;cases h
 | some j =>
  rw [e] at h;obtain ⟨h1,h2,h3,h4⟩:=MY e;exact ⟨j,h1,h,h2,h3,h4⟩
theorem atI_nat {α:Type} {xs:List α} {j:Nat} {v:α} (h:xs[j]?=some v):DV xs (j:Int)=some v:=by
 have hj:j < xs.length:=(List.getElem?_eq_some_iff.mp h).1;have e:Jo xs.length (j:Int)=some j:=by
  unfold Jo;rw [if_pos (by omega),if_pos (by omega)];simp
 unfold DV;rw [e];exact h
def Mx (b:Expr):Prop:=∀ o i,subscripted b false o i=operate [o,i] (getItem o i)
def Oh (X:Cx) (r:R2):Prop:=
 ∀ (value slice:Expr) (pins:List (Addr×Obj)) (s:Shared) (σ:St) (H:Hp) (x y:V) (v u:Value) (Q:VK),Inv X pins σ H s->RelV x v->RelV y u->r x y H Q ->
  subscripted slice false v u=operate [v,u] (getItem v u)->wpAny (model X.prog X.w) X.A (subscriptTail value slice v u) (EP X pins σ Q) X.xe s
def Zv (X:Cx) (id:String) (r:V->List V->Hp->VK->Prop):Prop:=
 ∀ (pins:List (Addr×Obj)) (s:Shared) (σ:St) (H:Hp) (x:V) (xs:List V) (v:Value) (us:List Value) (Q:VK),Inv X pins σ H s->RelV x v->AE xs us->r x xs H Q ->
  wpAny (model X.prog X.w) X.A (call (.builtin id) (v::us)) (EP X pins σ Q) X.xe s
section
variable {X:Cx} {a b:Expr} {ta tb:TE} {pos:Pos}
theorem Oh.or {r r':R2} (h:Oh X r) (h':Oh X r'):Oh X (fun x y H Q=>r x y H Q\/r' x y H Q):=by
 intro value slice pins s σ H x y v u Q I rx ry q hs;rcases q with q | q
 ·exact h value slice pins s σ H x y v u Q I rx ry q hs
 ·exact h' value slice pins s σ H x y v u Q I rx ry q hs
theorem bY {r:R2} (hr:Oh X r) (ha:PE X a ta) (hb:PE X b tb) (hs:Mx b):PE X (.Subscript a b pos) (de r ta tb):=by
 intro pins s σ H Q I h;exact Subscript_ (Zo ha hb I h fun v u s2 x y H2 I2 rx ry q=>hr a b pins s2 σ H2 x y v u Q I2 rx ry q (hs _ _))
def bO (K:W.Frag):R2:=fun x y H Q=>∃ p xs i v,x=.ref p/\y=.int i/\CP K H p xs/\DV xs i=some v/\Q v H
def bM (K:W.Frag):R2:=fun x y H Q=>∃ p xs i v,x=.ref p/\y=.int i/\DY K H p xs/\DV xs i=some v/\Q v H
def bN:R2:=fun x y H Q=>∃ z i c,x=.str z/\y=.int i/\z.length<=sizeLine/\DV z.cps.toList i=some c/\Q (.str ⟨#[c]⟩) H
theorem Ug:Oh X (bO X.K):=by
  intro value slice pins s σ H x y v u Q I rx ry h hs;obtain ⟨p,xs,i,z,rfl,rfl,hq,he,q⟩:=h;cases rx;obtain ⟨t,rfl⟩:=ry;obtain ⟨its,r,pl,hz⟩:=I.list hq;obtain ⟨j,h1,h2,h3,h4,h5⟩:=Iu he;obtain ⟨w,ew,rw'⟩:=r.get h2;have hl:=r.length;have hn:=FB;have fin:EP X pins σ Q w s:=⟨z,H,I,rw',q⟩
  by_cases h0:0<=i
  · have hj:i.toNat=j:=by
      rw [seqIndex_of h0 h5] at h1;exact Option.some.inj h1
    exact item_listR pl.isList h0 (by omega) (by rw [hj];simpa using ew) fin hs
  · have hj:(i+(its.toArray.size:Int)).toNat=j:=by
      rw [seqIndex_neg (by omega) h4] at h1;rw [List.size_toArray,<- hl];exact Option.some.inj h1
    exact subscriptTail_builtinR (x:=w) pl.isList.typeIs slot_list_getitem.lookup
      (wpAny_getItem_list_neg (Q:=fun r s'=>r=w/\EP X pins σ Q r s') pl.isList (by omega) (by rw [List.size_toArray]<;>omega) (by omega) (by rw [hj];simpa using ew) ⟨rfl,fin⟩) hs
theorem Yt:Oh X (bM X.K):=by
 intro value slice pins s σ H x y v u Q I rx ry h hs;obtain ⟨p,xs,i,z,rfl,rfl,hq,he,q⟩:=h;cases rx;obtain ⟨t,rfl⟩:=ry;obtain ⟨its,r,pl,hz⟩:=I.tuple hq;obtain ⟨j,h1,h2,h3,h4,h5⟩:=Iu he;obtain ⟨w,ew,rw'⟩:=r.get h2;have hl:=r.length;have hn:=FB;have fin:EP X pins σ Q w s:=⟨z,H,I,rw',q⟩;exact subscriptTail_builtinR (x:=w) pl.typeIs slot_tuple_getitem.lookup
  (getItem_tuple (j:=j) (Q:=fun r s'=>r=w/\EP X pins σ Q r s') pl (by omega) (by omega) (by rw [List.size_toArray,<- hl];exact h1) (by simpa using ew) ⟨rfl,fin⟩) hs
theorem Yu:Oh X bN:=by
 intro value slice pins s σ H x y v u Q I rx ry h hs;obtain ⟨z,i,c,rfl,rfl,hz,he,q⟩:=h;obtain ⟨t,rfl⟩:=rx;obtain ⟨t',rfl⟩:=ry;obtain ⟨j,h1,h2,h3,h4,h5⟩:=Iu he;have hl:z.cps.toList.length=z.length:=by simp [Str.length]
 rw [hl] at h1 h4 h5;have hn:=FB;exact tail_any (typeIs_str s z t) slot_str_getitem.lookup (getItem_str (c:=c) (by
  have e1:decide (i < -(2 ^ 63:Int))=false:=decide_eq_false (by omega);have e2:decide (i >= 2 ^ 63)=false:=decide_eq_false (by omega);rw [e1,e2,Bool.or_false]) (by rw [h1];simpa using h2) ⟨.str ⟨#[c]⟩,H,I.tok _,⟨_,rfl⟩,q⟩) hs
def Xj (K:W.Frag):R2:=fun x y H Q=>bO K x y H Q\/bM K x y H Q\/bN x y H Q
theorem Yv:Oh X (Xj X.K):=Ug.or (Yt.or Yu)
theorem LJ (its:List Value) (n j:Nat) (u:Value):Obj.mapSeq (·.setIfInBounds j u) { cls:=.type "list", data:=.seq its.toArray n }={ cls:=.type "list", data:=.seq (its.set j u).toArray n }:=by
 simp [Obj.mapSeq]
theorem Inv.lst {pins:List (Addr×Obj)} {σ:St} {H:Hp} {s:Shared} {p:Addr} {xs:List V} (I:Inv X pins σ H s) (h:H p=some (.lst xs)) :
    ∃ (its:List Value) (n:Nat),AE xs its/\s.heap.get? p=some { cls:=.type "list", data:=.seq its.toArray n }/\xs.length<=sizeLine:=by
  obtain ⟨z,its,n,r,e⟩:=I.hok p _ h;exact ⟨its,n,r,e,z⟩
theorem Inv.lstUpd {pins:List (Addr×Obj)} {σ:St} {H:Hp} {s:Shared} {p:Addr} {xs ys:List V} {its its':List Value} {n n':Nat} {f:Obj->Obj} (I:Inv X pins σ H s) (h:H p=some (.lst xs))
    (ho:s.heap.get? p=some { cls:=.type "list", data:=.seq its.toArray n }) (hf:f { cls:=.type "list", data:=.seq its.toArray n }={ cls:=.type "list", data:=.seq its'.toArray n' }) (r:AE ys its') (hz:ys.length<=sizeLine) (t:Nat) :
    Inv X pins σ (upd H p (.lst ys)) { s with heap:=s.heap.update p f,toks:=t }:=by
  have e:(s.heap.update p f).get? p=some { cls:=.type "list", data:=.seq its'.toArray n' }:=by
    rw [Heap.get?_update_self f ho (by rw [hf]<;>rfl),hf]
  refine I.write (x:=p) (e:=p) (by rw [h];trivial) (.inl rfl) (fun b u hb q=>(Heap.get?_update_other _ _ (Ne.symm hb)).trans q) ⟨_,e⟩ ?_;exact ⟨hz,its',n',r,e⟩
def QC:V->V->V->Hp->(Hp->Prop)->Prop:=fun o i v H Q=>∃ p xs k j,o=.ref p/\i=.int k/\H p=some (.lst xs)/\Jo xs.length k=some j/\Q (upd H p (.lst (xs.set j v)))
theorem set_list:Iy X QC:=by
  intro pins s σ H o i v ov iv u Q I ro ri rv h;obtain ⟨p,xs,k,j,rfl,rfl,hp,hj,q⟩:=h;cases ro;obtain ⟨t,rfl⟩:=ri;obtain ⟨its,n,r,ho,hz⟩:=I.lst hp;obtain ⟨h1,h2,h3,h4⟩:=MY hj;have hl:=r.length;have hn:=FB;have I':Inv X pins σ (upd H p (.lst (xs.set j v))) { s with heap:=s.heap.update p (Obj.mapSeq (·.setIfInBounds j u)) }:=
    I.lstUpd hp ho (LJ its n j u) (r.set rv j) (by rw [List.length_set];exact hz) s.toks
  by_cases h0:0<=k
  · have hk:k.toNat=j:=by
      rw [seqIndex_of h0 h4] at h1;exact Option.some.inj h1
    exact W.ki_setAt ho h0 (by omega) (by rw [List.size_toArray,<- hl];exact h4) (by rw [hk];exact ⟨_,I',q⟩)
  · have hk:(k+(its.toArray.size:Int)).toNat=j:=by
      rw [seqIndex_neg (by omega) h3] at h1;rw [List.size_toArray,<- hl];exact Option.some.inj h1
    exact W.ki_setBack ho (by omega) (by rw [List.size_toArray,<- hl];exact h3) (by omega) (by rw [hk];exact ⟨_,I',q⟩)
theorem IF (lo hi:Option Int) (n:Nat):(sliceBounds lo hi none n).1=((HT.sIx n 0 lo:Nat):Int)/\(sliceBounds lo hi none n).2.1=((HT.sIx n n hi:Nat):Int)/\(sliceBounds lo hi none n).2.2=1:=by
 refine ⟨?_,?_,rfl⟩
 ·cases lo with
  | none=>simp [sliceBounds,HT.sIx]
  | some i =>
   simp only [sliceBounds,HT.sIx,Option.getD_none,show (1:Int) > 0 by decide,if_true]
   by_cases h:i < 0
   ·simp only [h,if_true]<;>omega
   ·simp only [h,if_false]<;>omega
 ·cases hi with
  | none=>simp [sliceBounds,HT.sIx]
  | some i =>
   simp only [sliceBounds,HT.sIx,Option.getD_none,show (1:Int) > 0 by decide,if_true]
   by_cases h:i < 0
   ·simp only [h,if_true]<;>omega
   ·simp only [h,if_false]<;>omega
theorem Gv (its:List Value) (lo hi:Option Int):slicePick its.toArray lo hi none=((its.drop (HT.sIx its.length 0 lo)).take (HT.sIx its.length its.length hi - HT.sIx its.length 0 lo)).toArray:=by
 obtain ⟨h1,h2,h3⟩:=IF lo hi its.toArray.size;unfold slicePick;rw [h1,h2,h3];simp only [sliceRange_one,pick_run,List.size_toArray]<;>rfl
def bH (K:W.Frag):V->Option Int->Option Int->Hp->VK->Prop:=fun x lo hi H Q=>∃ a xs,x=.ref a/\CP K H a xs/\∀ p,H p=none->Q (.ref p) (upd H p (.lst (EO xs lo hi)))
theorem Ta:Oo X (bH X.K):=by
 intro pins s σ H x v vl vu lo hi sl Q I rx hs pl pu h;obtain ⟨a,xs,rfl,hx,q⟩:=h;cases rx;obtain ⟨its,r,ht,hz⟩:=I.list hx;have hlen:=r.length
 refine ⟨"list", _,slot_list_getitem.lookup,ht.isList.typeIs,?_⟩
 refine wpAny_getItem_list_slice ht.isList hs pl pu .none (by simp) ?_ (by rw [List.size_toArray]<;>omega);rw [Gv,<- hlen];refine ⟨.ref s.heap.objs.size,_,I.laid (t':=s.toks) (o:=.lst (EO xs lo hi)) (fun b ob q=>Heap.get?_push_of_some _ q) (Nat.le_refl _) ?_,rfl,q _ (I.hok.fresh (Nat.le_refl _))⟩;exact ⟨Nat.le_trans (FL xs lo hi) hz,_,0,(r.drop (HT.sIx xs.length 0 lo)).take (HT.sIx xs.length xs.length hi - HT.sIx xs.length 0 lo),Heap.get?_push_size _ rfl⟩
noncomputable def EL:V->Bool
 | .non=>true
 | .bl _=>true
 | .int _=>true
 | .str _=>true
 | _=>false
noncomputable def eqV:V->V->Bool
 | .non,.non=>true
 | .bl a,.bl b=>a == b
 | .bl a,.int b=>(if a then 1 else 0) == b
 | .int a,.bl b=>a == (if b then 1 else 0)
 | .int a,.int b=>a == b
 | .str a,.str b=>a == b
 | _,_=>false
theorem ZL {A:Around} {s:Shared} {y x:V} {u v:Value} (ry:RelV y u) (rx:RelV x v) (fy:EL y=true) (fx:EL x=true):SeqAt.EqAt A s u v (eqV y x):=by
 cases y with
 | non =>
  cases ry;cases x with
  | non=>cases rx;exact SeqAt.EqAt.same _
  | bl b=>cases rx;exact SeqAt.EqAt.none_bool b
  | int b=>obtain ⟨t,rfl⟩:=rx;exact SeqAt.EqAt.none_int b t
  | str b=>obtain ⟨t,rfl⟩:=rx;exact SeqAt.EqAt.none_str b t
  | _=>exact absurd (show false=true from fx) Bool.false_ne_true
 | bl a =>
  cases ry;cases x with
  | non=>cases rx;exact SeqAt.EqAt.bool_none a
  | bl b=>cases rx;exact SeqAt.EqAt.bool_bool a b
  | int b=>obtain ⟨t,rfl⟩:=rx;exact SeqAt.EqAt.bool_int a b t
  | str b=>obtain ⟨t,rfl⟩:=rx;exact SeqAt.EqAt.bool_str a b t
  | _=>exact absurd (show false=true from fx) Bool.false_ne_true
 | int a =>
  obtain ⟨t',rfl⟩:=ry;cases x with
  | non=>cases rx;exact SeqAt.EqAt.int_none a t'
  | bl b=>cases rx;exact SeqAt.EqAt.int_bool a t' b
  | int b=>obtain ⟨t,rfl⟩:=rx;exact SeqAt.EqAt.int_int a t' b t
  | str b=>obtain ⟨t,rfl⟩:=rx;exact SeqAt.EqAt.int_str a t' b t
  | _=>exact absurd (show false=true from fx) Bool.false_ne_true
 | str a =>
  obtain ⟨t',rfl⟩:=ry;cases x with
  | non=>cases rx;exact SeqAt.EqAt.str_none a t'
  | bl b=>cases rx;exact SeqAt.EqAt.str_bool a t' b
  | int b=>obtain ⟨t,rfl⟩:=rx;exact SeqAt.EqAt.str_int a t' b t
  | str b=>obtain ⟨t,rfl⟩:=rx;exact SeqAt.EqAt.str_str a t' b t
  | _=>exact absurd (show false=true from fx) Bool.false_ne_true
 | _=>exact absurd (show false=true from fy) Bool.false_ne_true
theorem IS:Bx X (compareOp .NotIn) (fun x y H Q=>∃ i j,x=.str i/\y=.str j/\Q (.bl (!(!(Builtin.Str.occurrences j i 0 j.length 1).isEmpty))) H):=by
 intro pins s σ H x y v u Q I rx ry h;obtain ⟨i,j,rfl,rfl,q⟩:=h;obtain ⟨t,rfl⟩:=rx;obtain ⟨t',rfl⟩:=ry;exact notIn_str ⟨.bl _,H,I,rfl,q⟩
theorem BE.or {f:Value} {r r':List V->Hp->VK->Prop} (h:BE X f r) (h':BE X f r'):BE X f (fun xs H Q=>r xs H Q\/r' xs H Q):=by
 intro pins s σ H xs us Q I rs q;rcases q with q | q
 ·exact h pins s σ H xs us Q I rs q
 ·exact h' pins s σ H xs us Q I rs q
theorem Iq:BE X (.type "list") (fun xs H Q=>∃ p ys,xs=[.ref p]/\(CP X.K H p ys\/DY X.K H p ys)/\∀ l,H l=none->Q (.ref l) (upd H l (.lst ys))):=by
  intro pins s σ H xs us Q I r h;obtain ⟨p,ys,rfl,hq,q⟩:=h;obtain ⟨u,rfl,rx⟩:=vals1 r;cases rx;have fin:∀ (its:List Value),AE ys its->ys.length<=sizeLine->∀ (h':Heap) (c':Nat),(∀ b o',s.heap.get? b=some o'->h'.get? b=some o') ->
      h'.get? s.heap.objs.size=some { cls:=.type "list", dict:=none,data:=.seq its.toArray c',slots:=#[] }->EP X pins σ Q (.ref s.heap.objs.size) { s with heap:=h' }:=fun its r' hz h' c' kp e =>
    ⟨.ref s.heap.objs.size,_,I.laid (t':=s.toks) kp (Nat.le_refl _) (show Ah X.prog X.w _ h' _ (.lst ys) from ⟨hz,its,c',r',e⟩),rfl,q _ (I.hok.fresh (Nat.le_refl _))⟩
  rcases hq with hq | hq
  · obtain ⟨its,r',pl,hz⟩:=I.list hq;have hlen:=r'.length;obtain ⟨o,ho,hc,n,hd⟩:=pl.isList;exact call_list_seq p (.inl rfl) ho hc hd (fun h' c' kp e=>fin its r' hz h' c' kp e) (by simp only [List.size_toArray]<;>omega)
  · obtain ⟨its,r',pl,hz⟩:=I.tuple hq;have hlen:=r'.length;obtain ⟨o,ho,hc,n,hd⟩:=pl;exact call_list_seq p (.inr rfl) ho hc hd (fun h' c' kp e=>fin its r' hz h' c' kp e) (by simp only [List.size_toArray]<;>omega)
theorem HA:BE X (.type "tuple") (fun xs H Q=>∃ p ys,xs=[.ref p]/\((CP X.K H p ys/\∀ l,H l=none->Q (.ref l) (upd H l (.tup ys)))\/(DY X.K H p ys/\Q (.ref p) H))):=by
 intro pins s σ H xs us Q I r h;obtain ⟨p,ys,rfl,h⟩:=h;obtain ⟨u,rfl,rx⟩:=vals1 r;cases rx;rcases h with ⟨hq,q⟩ | ⟨hq,q⟩
 ·obtain ⟨its,r',pl,hz⟩:=I.list hq;have hlen:=r'.length;refine call_tuple_list pl.isList (fun h' kp=>?_) (by simp only [List.size_toArray]<;>omega);have I1:Inv X pins σ H { s with heap:=h' }:=I.kept (t':=s.toks) kp
  have I2:Inv X pins σ (upd H h'.objs.size (.tup ys)) { s with heap:=h'.push { cls:=.type "tuple", data:=.seq its.toArray } }:=
   I1.laid (t':=s.toks) (fun b o e=>Heap.get?_push_of_some _ e) (Nat.le_refl _) (show Ah X.prog X.w _ _ _ (.tup ys) from ⟨hz,its,r',HC.new _ _⟩)
  exact ⟨.ref h'.objs.size,_,I2,rfl,q _ (I1.hok.fresh (Nat.le_refl _))⟩
 ·obtain ⟨its,r',pl,hz⟩:=I.tuple hq;exact call_tuple_same pl ⟨.ref p,H,I,rfl,q⟩
def da (K:W.Frag) (T:String) (x:V) (H:Hp):Prop:=match x with
  | .str _=>T = "str"
  | .int _=>T = "int"
  | .ref p=>(T = "list" /\ ∃ xs,CP K H p xs)\/(T = "tuple" /\ ∃ o,K.lookup p=some o/\o.cls=.type "tuple" /\ o.dict=none) \/
      (T = "dict" /\ ((∃ kvs,H p=some (.dK kvs))\/∃ kvs,H p=some (.dT kvs)))\/(T = "set" /\ ∃ S n,H p=some (.set S n))
  | _=>False
theorem Oy {pins:List (Addr×Obj)} {σ:St} {H:Hp} {s:Shared} {T:String} {x:V} {v:Value} (I:Inv X pins σ H s) (r:RelV x v) (ty:da X.K T x H) :
    s.TypeIs v T/\∀ a,v=.ref a->∃ ob,s.heap.get? a=some ob/\ob.dict=none:=by
  cases x with
  | str z =>
    obtain ⟨t,rfl⟩:=r
    cases (show T = "str" from ty)
    exact ⟨typeIs_str s z t,fun _ e=>nomatch e⟩
  | int i =>
    obtain ⟨t,rfl⟩:=r
    cases (show T = "int" from ty)
    exact ⟨typeIs_int s i t,fun _ e=>nomatch e⟩
  | ref p =>
    cases r;rcases ty with ⟨rfl,xs,hq⟩ | ⟨rfl,o,hk,hc,hd⟩ | ⟨rfl,hk⟩ | ⟨rfl,S,n,hk⟩
    · obtain ⟨its,_,pl,_⟩:=I.list hq;refine ⟨pl.isList.typeIs,fun a e=>?_⟩;cases e;obtain ⟨o,n,e,c,hd,_⟩:=pl;exact ⟨o,e,hd⟩
    · refine ⟨⟨o,I.kIn p o hk,hc⟩,fun a e=>?_⟩;cases e;exact ⟨o,I.kIn _ o hk,hd⟩
    · have z:∃ o,s.heap.get? p=some o/\o.ExactDict:=by
        rcases hk with ⟨kvs,hk⟩ | ⟨kvs,hk⟩
        · obtain ⟨_,_,_,_,o,_,_,e,ex,_⟩:=I.hok p _ hk;exact ⟨o,e,ex⟩
        · obtain ⟨_,_,_,_,o,_,_,e,ex,_⟩:=I.hok p _ hk;exact ⟨o,e,ex⟩
      obtain ⟨o,e,ex⟩:=z;refine ⟨⟨o,e,ex.1⟩,fun a e2=>?_⟩;cases e2;exact ⟨o,e,ex.2.1⟩
    · obtain ⟨o,_,_,_,e,ex,_⟩:=I.hok p _ hk;refine ⟨⟨o,e,ex.1⟩,fun a e2=>?_⟩;cases e2;exact ⟨o,e,ex.2.1⟩
  | _=>exact False.elim ty
abbrev eW (K:W.Frag) (T:String) (r:V->List V->Hp->VK->Prop) (to:TE):TE:=fun σ H Q=>to σ H fun x H1=>da K T x H1/\r x [] H1 Q
abbrev aa (K:W.Frag) (T:String) (r:V->List V->Hp->VK->Prop) (to:TE) (t:TA):TE:=fun σ H Q=>to σ H fun x H1=>da K T x H1/\t σ H1 fun xs H2=>r x xs H2 Q
variable {o e:Expr} {es:List Expr} {to:TE} {t:TA} {name:Str} {apos cpos:Pos} {T id:String} {r:V->List V->Hp->VK->Prop}
theorem QY (pa:PlainAttrs T) (slot:Slot T name id) (hty:typeOf (.builtin id)=pure (.type "method_descriptor")) (hm:Zv X id r) (ho:PE X o to)
    (hbase:attributeBase o name X.env (eval o X.env)=eval o X.env:=by rfl) (hline:(apos.endLine == cpos.line)=true:=by rfl):PE X (.Call (.Attribute o name apos) [] [] cpos) (eW X.K T r to):=by
  intro pins s σ H Q I h;refine wpAny_Call_method0_late hbase hline (Al (ho pins s σ H _ I h) fun v s1 ⟨x,H1,I1,r1,ty,q1⟩=>?_);obtain ⟨h1,h2⟩:=Oy I1 r1 ty;exact ⟨T,id,pa,slot,hty,h1,h2,Calls.callWith_builtin rfl (PySem.evalArgs_none (hm pins s1 σ H1 x [] v [] Q I1 r1 .nil q1))⟩
theorem WQ (pa:PlainAttrs T) (slot:Slot T name id) (hty:typeOf (.builtin id)=pure (.type "method_descriptor")) (hm:Zv X id r) (ho:PE X o to) (ha:PA X (e::es) t)
    (hbase:attributeBase o name X.env (eval o X.env)=eval o X.env:=by rfl)
    (hfew:((backTo cpos (starEach (e::es) X.env)).all (fun x=>!x.1) && (backToKw cpos (keywordEach [] X.env)).all (fun x=>x.1.isSome)
      && decide ((e::es).length+([]:List Keyword).length+(if ([]:List Keyword).isEmpty then 0 else 1) < 30))=true:=by rfl)
    (hline:(apos.endLine == cpos.line)=true:=by rfl) (hs:starEach (e::es) X.env=(false,eval e X.env)::starEach es X.env:=by rfl) (hplain:(backTo cpos (starEach es X.env)).any (·.1)=false:=by rfl) :
    PE X (.Call (.Attribute o name apos) (e::es) [] cpos) (aa X.K T r to t):=by
  intro pins s σ H Q I h;refine wpAny_Call_method_late hbase hfew hline rfl (Al (ho pins s σ H _ I h) fun v s1 ⟨x,H1,I1,r1,ty,q1⟩=>?_);obtain ⟨h1,h2⟩:=Oy I1 r1 ty;refine ⟨T,id,pa,slot,hty,h1,h2,?_⟩;have hA:=ha cpos pins s1 σ H1 _ I1 q1;rw [hs] at hA ⊢;refine Calls.callWith_builtin (by show (false || (backTo cpos (starEach es X.env)).any (·.1))=false;rw [hplain]<;>rfl) (Calls.evalArgs_plain ?_);exact Al hA fun us s2 ⟨vs,H2,I2,r2,q2⟩=>hm pins s2 σ H2 x vs v us Q I2 r1 r2 q2
end
def aJ (X:Cx) (id:String) (r:V->List V->Hp->VK->Prop):Prop:=
 ∀ (pins:List (Addr×Obj)) (s:Shared) (σ:St) (H:Hp) (x:V) (xs:List V) (v:Value) (us:List Value) (Q:VK),Inv X pins σ H s->RelV x v->AE xs us->r x xs H Q ->
  wpAny (model X.prog X.w) X.A (call (.builtin id) (v::us)) (EP X pins σ Q) X.xe s
theorem AE.one:∀ {x:V} {us:List Value},AE [x] us->∃ u,us=[u]/\RelV x u
 := by
 intro x us h;cases h with | cons r t=>cases t;exact ⟨_,rfl,r⟩
theorem AE.two:∀ {x y:V} {us:List Value},AE [x,y] us->∃ u v,us=[u,v]/\RelV x u/\RelV y v
 := by
 intro x y us h;cases h with | cons r t=>cases t with | cons q t=>cases t;exact ⟨_,_,rfl,r,q⟩
theorem AE.zero:∀ {us:List Value},AE [] us->us=[]
 | _,.nil=>rfl
theorem AE.dropLast {xs:List V} {us:List Value} (h:AE xs us):AE xs.dropLast us.dropLast:=by
 induction h with
 | nil=>exact .nil
 | cons r t ih =>
  cases t with
  | nil=>exact .nil
  | cons q t'=>exact .cons r ih
theorem AE.rep {xs:List V} {us:List Value} (h:AE xs us):∀ k:Nat,AE (List.replicate k xs).flatten (List.replicate k us).flatten
 | 0=>.nil
 | k+1=>by
  rw [List.replicate_succ,List.replicate_succ,List.flatten_cons,List.flatten_cons];exact AE.append h (AE.rep h k)
theorem LY {α:Type} (l:List α):l.eraseIdx (l.length - 1)=l.dropLast:=by
 induction l with
 | nil=>rfl
 | cons a r ih =>
  cases r with
  | nil=>rfl
  | cons b r =>
   have e:(a::b::r).length - 1=((b::r).length - 1)+1:=by
    have h1:(a::b::r).length=r.length+2:=rfl;have h2:(b::r).length=r.length+1:=rfl;omega
   rw [e,List.eraseIdx_cons_succ,ih]
   all_goals rfl
theorem foldl_rep (its:List Value):∀ (k:Nat) (acc:List Value),
    List.foldl (fun x1 x2=>x1++x2) acc.toArray (List.replicate k its.toArray)=(acc++(List.replicate k its).flatten).toArray
  | 0,acc=>by simp
  | k+1,acc=>by
    have e:acc.toArray++its.toArray=(acc++its).toArray:=by simp
    have e2:(acc++its)++(List.replicate k its).flatten=acc++(List.replicate (k+1) its).flatten:=by
      rw [List.replicate_succ,List.flatten_cons,List.append_assoc]
    rw [<- e2,<- foldl_rep its k (acc++its),<- e,List.replicate_succ,List.foldl_cons]
section
variable {X:Cx} {pins:List (Addr×Obj)} {σ:St} {H:Hp} {s:Shared} {l b:Addr} {xs ys zs:List V}
theorem Inv.lset {its its':List Value} {n:Nat} {f:Array Value->Array Value} {t':Nat} (I:Inv X pins σ H s) (hH:H l=some (.lst xs))
    (e:s.heap.get? l=some { cls:=.type "list", data:=.seq its.toArray n }) (hf:f its.toArray=its'.toArray) (hv:AE ys its') (hz:ys.length<=sizeLine) :
    Inv X pins σ (upd H l (.lst ys)) { s with heap:=s.heap.update l (Obj.mapSeq f),toks:=t' }:=by
  have q:=PySem.IsL.update e f;rw [hf] at q;refine I.write (x:=l) (e:=l) (by rw [hH];exact trivial) (.inl rfl) (fun b' u hb hu=>(Heap.get?_update_other s.heap (Obj.mapSeq f) (Ne.symm hb)).trans hu) ⟨_,q⟩ ?_;exact ⟨hz,its',_,hv,q⟩
theorem Inv.lnew {its:List Value} {t':Nat} (I:Inv X pins σ H s) (hv:AE ys its) (hz:ys.length<=sizeLine) :
    Inv X pins σ (upd H s.heap.objs.size (.lst ys)) { s with heap:=s.heap.push { cls:=.type "list", data:=.seq its.toArray },toks:=t' }:=
  I.laid (fun _ _ q=>Heap.get?_push_of_some _ q) (Nat.le_refl _) ⟨hz,its,0,hv,Heap.get?_push_size _ rfl⟩
theorem Inv.fresh (I:Inv X pins σ H s):H s.heap.objs.size=none:=I.hok.fresh (Nat.le_refl _)
theorem Inv.lstM (I:Inv X pins σ H s) (hH:H l=some (.lst xs)):xs.length<=sizeLine/\∃ (its:List Value) (n:Nat),AE xs its/\xs.length=its.length/\s.heap.get? l=some { cls:=.type "list", data:=.seq its.toArray n }:=by
 obtain ⟨z,its,n,r,e⟩:=I.hok l _ hH;exact ⟨z,its,n,r,r.length,e⟩
theorem Jf {n:Nat} (h:n<=sizeLine):Builtin.List.listTooLong n=false:=by
 unfold Builtin.List.listTooLong;exact decide_eq_false (by omega)
end
section
variable {X:Cx}
def MO:V->List V->Hp->VK->Prop:=fun x vs H Q=>∃ l xs y,x=.ref l/\vs=[y]/\H l=some (.lst xs)/\xs.length < sizeLine/\Q .non (upd H l (.lst (xs++[y])))
theorem Ni:aJ X "list.append" MO:=by
 intro pins s σ H x vs v us Q I rx rv h;obtain ⟨l,xs,y,rfl,rfl,hH,hz,q⟩:=h;cases rx;obtain ⟨u,rfl,ru⟩:=rv.one;obtain ⟨z,its,n,r,hl,e⟩:=I.lstM hH;refine call_meets F.slot_list_append ⟨_,e,rfl⟩ F.entry_list_append (F.args_list_append_2 _ _) (PySem.list_append l its.toArray n u (by rw [List.size_toArray];omega)) ⟨e,?_⟩;refine ⟨.non,_,I.lset (its':=its++[u]) hH e (by simp) (r.append (.cons ru .nil)) ?_,rfl,q⟩;rw [List.length_append,List.length_singleton];omega
def MN:V->List V->Hp->VK->Prop:=fun x vs H Q=>∃ l b xs zs,x=.ref l/\vs=[.ref b]/\H l=some (.lst xs)/\H b=some (.lst zs)/\xs.length+zs.length<=sizeLine/\Q .non (upd H l (.lst (xs++zs)))
theorem Nh:aJ X "list.extend" MN:=by
 intro pins s σ H x vs v us Q I rx rv h;obtain ⟨l,b,xs,zs,rfl,rfl,hH,hB,hz,q⟩:=h;cases rx;obtain ⟨u,rfl,ru⟩:=rv.one;cases ru;obtain ⟨z,its,n,r,hl,e⟩:=I.lstM hH;obtain ⟨z2,its2,n2,r2,hl2,e2⟩:=I.lstM hB;have hsz:its.toArray.size+its2.toArray.size<=sizeLine:=by rw [List.size_toArray,List.size_toArray];omega
 have hlong:¬ (!its.toArray.isEmpty && Builtin.List.listTooLong (its.toArray.size+its2.toArray.size))=true:=by
  rw [Jf hsz,Bool.and_false];exact Bool.false_ne_true
 refine call_meets F.slot_list_extend ⟨_,e,rfl⟩ F.entry_list_extend (F.args_list_extend_2 _ _)
  (AutoSeq1.list_extend_list_list_0 l its.toArray n b its2.toArray n2 hlong (by rw [List.size_toArray];omega) (by omega)) ⟨e,e2,?_⟩
 refine ⟨.non,_,I.lset (its':=its++its2) hH e (by simp) (r.append r2) ?_,rfl,q⟩;rw [List.length_append];omega
def bL:V->List V->Hp->VK->Prop:=fun x vs H Q=>∃ l xs y,x=.ref l/\vs=[]/\H l=some (.lst xs)/\xs[xs.length - 1]?=some y/\Q y (upd H l (.lst xs.dropLast))
theorem Ye:aJ X "list.pop" bL:=by
 intro pins s σ H x vs v us Q I rx rv h;obtain ⟨l,xs,y,rfl,rfl,hH,hy,q⟩:=h;cases rx;have hus:=rv.zero;subst hus;obtain ⟨z,its,n,r,hl,e⟩:=I.lstM hH;obtain ⟨u,hu,ru⟩:=r.get hy;have hy':its.toArray[its.toArray.size - 1]?=some u:=by
  show its.toArray[its.length - 1]?=some u;rw [<- Array.getElem?_toList,<- hl];exact hu
 refine call_meets F.slot_list_pop ⟨_,e,rfl⟩ F.entry_list_pop (F.args_list_pop_1 _) (MeetsSeq.list_pop_last l its.toArray n u hy' (by rw [List.size_toArray];omega)) ⟨e,?_⟩;refine ⟨y,_,I.lset (its':=its.dropLast) hH e ?_ r.dropLast ?_,ru,q⟩
 ·show its.toArray.eraseIdxIfInBounds (its.toArray.size - 1)=its.dropLast.toArray;rw [List.size_toArray,List.eraseIdxIfInBounds_toArray,LY]
 ·rw [List.length_dropLast];omega
def bP:R2:=fun x y H Q=>∃ l b xs zs,x=.ref l/\y=.ref b/\H l=some (.lst xs)/\H b=some (.lst zs)/\xs.length+zs.length<=sizeLine/\∀ p,H p=none->Q (.ref p) (upd H p (.lst (xs++zs)))
theorem YX:Bx X (binaryOp .Add) bP:=by
 intro pins s σ H x y v u Q I rx ry h;obtain ⟨l,b,xs,zs,rfl,rfl,hH,hB,hz,q⟩:=h;cases rx;cases ry;obtain ⟨z,its,n,r,hl,e⟩:=I.lstM hH;obtain ⟨z2,its2,n2,r2,hl2,e2⟩:=I.lstM hB;refine PySem.P.add_list e e2 ?_ (by rw [List.size_toArray,List.size_toArray];omega);have ea:its.toArray++its2.toArray=(its++its2).toArray:=by simp
 rw [ea];exact ⟨.ref _,_,I.lnew (t':=s.toks) (r.append r2) (by rw [List.length_append];omega),rfl,q _ I.fresh⟩
def bK:R2:=fun x y H Q=>∃ l k xs,x=.ref l/\y=.int k/\H l=some (.lst xs)/\-(2 ^ 63)<=k/\k < 2 ^ 63/\xs.length * k.toNat<=sizeLine /\
 ∀ p,H p=none->Q (.ref p) (upd H p (.lst (List.replicate k.toNat xs).flatten))
theorem len_rep {α:Type} (xs:List α) (k:Nat):(List.replicate k xs).flatten.length=k * xs.length:=by
 induction k with
 | zero=>simp
 | succ k ih=>rw [List.replicate_succ,List.flatten_cons,List.length_append,ih,Nat.succ_mul,Nat.add_comm]
theorem YR:Bx X (binaryOp .Mult) bK:=by
 intro pins s σ H x y v u Q I rx ry h;obtain ⟨l,k,xs,rfl,rfl,hH,h1,h2,hz,q⟩:=h;cases rx;obtain ⟨t,rfl⟩:=ry;obtain ⟨z,its,n,r,hl,e⟩:=I.lstM hH;have hlen:its.toArray.size * k.toNat<=sizeLine:=by rw [List.size_toArray,<- hl];exact hz
 have hcap:¬ its.toArray.size * k.toNat > (2 ^ 63 - 1) / 8:=by
  have:(sizeLine:Nat)<=(2 ^ 63 - 1) / 8:=by decide
  omega
 have hfit:¬ (!Builtin.List.listFitsIndex k)=true:=by
  rw [fitsIndex_both h1 h2];exact Bool.false_ne_true
 have hlong:¬ Builtin.List.listTooLong (its.toArray.size * k.toNat)=true:=by
  rw [Jf hlen];exact Bool.false_ne_true
 have hnew:List.foldl (fun x1 x2=>x1++x2) #[] (List.replicate (if its.toArray.isEmpty=true then 0 else k.toNat) its.toArray)=(List.replicate k.toNat its).flatten.toArray:=by
  have f0:∀ m:Nat,List.foldl (fun x1 x2=>x1++x2) #[] (List.replicate m its.toArray)=(List.replicate m its).flatten.toArray:=fun m=>by
   have:=foldl_rep its m [];rw [List.nil_append] at this;exact this
  rw [f0];cases its with
  | nil=>simp
  | cons a r'=>rw [if_neg (by simp)]
 refine wpAny_binaryOp_repeat_ref (T := "list") (U := "int") (by decide) ⟨_,e,rfl⟩ (fun s'=>typeIs_int s' k t) noFill_list_mul F.fills_int_mul F.slot_int_rmul repeat_list F.slot_int_index.lookup
  (call_meets F.slot_int_rmul (typeIs_int s k t) F.entry_int_rmul (F.args_int_rmul_2 _ _) (int___rmul___int_list k t l its.toArray n)
   ⟨e,rfl,⟨_,e,rfl⟩,call_meets F.slot_list_mul ⟨_,e,rfl⟩ F.entry_list_mul (F.args_list_mul_2 _ _) (AutoListH.list___mul___list_int_3 l its.toArray n k t hfit hcap hlong) ⟨e,?_⟩⟩)
 rw [hnew];exact ⟨.ref _,_,I.lnew (t':=s.toks) (r.rep k.toNat) (by rw [len_rep,Nat.mul_comm];exact hz),rfl,q _ I.fresh⟩
end
section
end
section
end
end L2
namespace Att
open PySem PySem.W PySem.Calls PyProof.Rows
theorem FP {P:Params} {h:Heap}:∀ (ns:List Int) (vs:List Value),WellAll P h vs (ns.map WData.int)->IntsAre vs ns:=by
 intro ns
 induction ns with
 | nil =>
  intro vs w;rw [List.map_nil] at w;cases w;exact .nil
 | cons n ns ih =>
  intro vs w;rw [List.map_cons] at w;cases w with
  | cons a b =>
   cases a;exact .cons _ _ (ih _ b)
theorem NK {l:OpenLaw} {n:Nat} (hn:l.most=some n) {P:Params} {h:Heap} {args:List WData} {Dq:List Value}
    (hpre:l.row.toRowW.claim.pre args=true) (hwl:WellAll P h Dq args) :
    ∃ a vs ns,Dq=[Value.ref a]/\args=[WData.list (ns.map WData.int)]/\h.get? a=some { cls:=.type "list", data:=.seq vs.toArray }/\IntsAre vs ns/\ns.length<=n:=by
  have hsh:WShape.hasAll [] args [.list .int]=true:=(pre_splitW hpre).1;have hc:l.pre.holds [] { args:=args }=true:=(pre_splitW hpre).2;obtain ⟨d,r,rfl,h1,h2⟩:=hasAllW_cons hsh;obtain rfl:=hasAllW_nil h2;obtain ⟨xs,rfl,h3⟩:=hasW_list h1;obtain ⟨ns,rfl⟩:=items_int h3;have hlen:ns.length<=n:=by
    unfold OpenLaw.pre at hc;have h4:(WTm.not (.lt (.lit (.int (n:Int))) (.len (.arg 0)))).holds [] { args:=[.list (ns.map .int)] }=true:=by
      have h4:=(holds_andW hc).1;rw [hn] at h4;exact h4
    have h5:=condW_of h4 (w_not (w_lt w_lit (w_len_list (w_arg rfl))));rw [List.length_map] at h5;refine Nat.le_of_not_lt fun q=>?_
    have q':(n:Int) < ((ns.length:Nat):Int):=by omega
    first
      | (rw [decide_eq_true q'] at h5;exact absurd h5 (by decide))
      | (simp at h5;omega)
  cases hwl with
  | cons w1 w2 =>
    cases w2;cases w1 with
    | list ho hall=>exact ⟨_,_,ns,rfl,rfl,ho,FP ns _ hall,hlen⟩
theorem NT (l:OpenLaw) (args:List WData):l.row.toRowW.claim.post args (.bool true) args=true:=
 postW_of (r:=l.row.toRowW) (X:=(true == true))
  (show WShape.has [] (.bool true) .bool=true by first | rfl | decide | simp [WShape.has,WShape.arms,WShape.armsAll])
  (show (WTm.eq .res (.lit (.bool true))).value [] { args:=args,res:=some (.bool true),after:=args }=some (.bool (true == true)) from w_eq_bool (w_res rfl) w_lit) rfl
theorem attach_call {l:OpenLaw} {n:Nat} {q:Program} {loose:List Str} {XP:(Str->Option Value)->Heap->Prop} {YP:World->Heap->Prop} {d:DefRec}
    (hn:l.most=some n) (hdf:d.params.defaults=[])
    (call:∀ (w:World) (s₀ s₁:Shared) (mg mb:Str->Option Value) (fa:Addr) (o:Obj) (pm cd doc:Value) (a:Addr) (vs:List Value) (ns:List Int),
      Ground q loose [] XP w s₀ mg mb s₁.heap->YP w s₁.heap ->
      s₁.heap.get? fa=some o->o.data=.func (docDef d.name d.params d.body d.scope pm cd doc)->s₁.heap.CodeRec cd d.name->mg d.name=some (.ref fa) ->
      s₁.heap.get? a=some { cls:=.type "list", data:=.seq vs.toArray }->IntsAre vs ns->ns.length<=n->s₁.gens=#[] ->
      codeAny (model l.prog w) callerA (.call (.ref fa) ⟨[.ref a],[]⟩) (fun r s'=>r=.ok (.ret (.bool true))/\OldK s₁.heap s'.heap/\s'.os=s₁.os/\AllBare s'.gens) s₁) :
    WalkO q loose XP YP l.row.toRowW d [] (fun f vs=>PySem.call f vs):=by
  intro w s₀ s₁ mg mb G Y fa o pm cd doc dV kV ho hd hcd hD hmg hg args Dq as hpre hlay hrd hwl hlo;obtain rfl:dV=.none:=Dflts.none hD hdf;obtain rfl:kV=.none:=Dflts.noKw hD;obtain ⟨a,vs,ns,rfl,rfl,hobj,hints,hlen⟩:=NK hn hpre hwl;refine enter_call (codeAny_mono (call w s₀ s₁ mg mb fa o pm cd doc a vs ns G Y ho (fd_plain hd) hcd hmg hobj hints hlen hg) fun r s' hq=>?_);obtain ⟨rfl,h2,h3,h4⟩:=hq;exact ⟨.inl ⟨.bool true,.bool true,[],rfl,fun _=>rfl,.bool true,NT l _,fun _=>⟨List.Pairwise.nil,fun _ hm=>(nomatch hm)⟩⟩,h2,h3,h4⟩
section
end
end Att
namespace L2
open PySem PySem.Spec PyProof.Rows
theorem HJ:∀ {vs:List Value} {ns:List Int},IntsAre vs ns->AE (ns.map V.int) vs
 | _,_,.nil=>.nil
 | _,_,.cons n t h=>.cons ⟨t,rfl⟩ (HJ h)
def Vu (H:Hp):Prop:=∀ b,H b=none\/∃ o xs,H b=some (.frz o (.lst xs))
theorem Qr {P:Program} {w:World} {K:W.Frag} {mg mb:Str->Option Value} {CX:Sq} {k:Nat} {fa a:Addr} {fd:FuncData} {x:Str} {sp:Sp} {s₁:Shared} {vs:List Value} {ns:List Int}
    (KX:K.In s₁.heap) (hns:s₁.heap.Ns mainGlobals mg) (hb:s₁.heap.Ns builtinsNs mb) (hbb:∀ x:Str,x ≠ "__name__" -> mb x=bootBuiltins x) (hlim:s₁.heap.NoLimit) (hg:s₁.gens=#[])
    (ha:s₁.heap.get? a=some { cls:=.type "list", data:=.seq vs.toArray }) (hi:IntsAre vs ns) (hl:ns.length<=sizeLine) (hr:Room k callerA)
    (F:∀ base:Heap,K.In base->base.Ns mainGlobals mg->FnOk P w K mg base CX k fa fd [x] sp) (hbind:∀ (s:Shared) (u:Value),BindsTo s fd ⟨[u],[]⟩ [(x,u)])
    (hsp:∀ H:Hp,Vu H->CP K H a (ns.map V.int)->sp [.ref a] H (fun v _=>v=.bl true) fun _ _ _=>False)
    (hCX:∀ H e s',CX [] H s₁ (fun _ _ _=>False) e s'->False) :
    codeAny (model P w) callerA (.call (.ref fa) ⟨[.ref a],[]⟩) (fun r s'=>r=.ok (.ret (.bool true))/\OldK s₁.heap s'.heap/\s'.os=s₁.os/\AllBare s'.gens) s₁:=by
  have rv:=HJ hi;have lenV:=hi.length
  -- from an abstract heap in which nothing but the script may be tracked
  have core:∀ H:Hp,Vu H->CP K H a (ns.map V.int)->Dm P w H s₁.heap->(∀ b,H b≠none->b=a)->(H a≠none->K.lookup a=none) ->
      codeAny (model P w) callerA (.call (.ref fa) ⟨[.ref a],[]⟩) (fun r s'=>r=.ok (.ret (.bool true))/\OldK s₁.heap s'.heap/\s'.os=s₁.os/\AllBare s'.gens) s₁:=by
    intro H hO hS hok hA hK;have ES:∀ {b:Addr} {o:Obj},s₁.heap.get? b=some o->H b=none->(Ie s₁.heap H).get? b=some o:=fun e n=>Qv e n
    have noA:∀ {b:Addr} {o:Obj} {es:Array DictEntry} {ep:Nat},s₁.heap.get? b=some o->o.data=.dict es ep->H b=none:=fun {b o es ep} e d=>by
      cases q:H b with
      | none=>rfl
      | some u =>
        have e':b=a:=hA b (by rw [q];simp);subst e';rw [ha] at e;cases e;have d':Data.seq vs.toArray _=Data.dict es ep:=d;cases d'
    have nsK:∀ {b:Addr} {m:Str->Option Value},s₁.heap.Ns b m->(Ie s₁.heap H).Ns b m:=fun {b m} ⟨o,es,ep,e,d,r⟩=>⟨o,es,ep,ES e (noA e d),d,r⟩
    have hKb:K.In (Ie s₁.heap H):=fun b o e=>ES (KX b o e) (by
      cases q:H b with
      | none=>rfl
      | some u =>
        have e':b=a:=hA b (by rw [q];simp);subst e';rw [hK (by rw [q];simp)] at e;cases e)
    have hM:Mod K mg (Ie s₁.heap H):=⟨hKb,nsK hns,⟨mb,nsK hb,hbb⟩,let ⟨mc,h1,h2⟩:=hlim;⟨mc,nsK h1,h2⟩⟩;have e0:Env0 P w K mg (Ie s₁.heap H) callerA [] s₁ H:=⟨rfl,hM,fun b o e=>UU e,Nat.le_of_eq (Nw _ _),trivial,fun b hb=>absurd (show b∈([]:List Addr) from hb) (by simp),hok,.of_eq hg⟩;refine codeAny_mono ((F _ hKb (nsK hns)).run callerA [] s₁ H ⟨[.ref a],[]⟩ [.ref a] [.ref a] _ _ hr e0 (hbind s₁ (.ref a)) (.cons rfl .nil) (hsp H hO hS)) fun r s' h=>?_
    cases r with
    | error e=>exact (hCX H e s' h).elim
    | ok fl =>
      cases fl with
      | next=>exact False.elim h
      | brk=>exact False.elim h
      | cont=>exact False.elim h
      | ret u =>
        obtain ⟨v,H',os,bare,un,hok',r',q⟩:=h;have q':v=.bl true:=q;subst q';obtain rfl:u=Value.bool true:=r';refine ⟨rfl,OldK.of_keep fun b o e=>?_,os,bare⟩;cases q:H b with
        | none=>exact un.keep b o e q (by intro z;exact absurd (show b∈([]:List Addr) from z) (by simp)) (by simp)
        | some u =>
          rcases hO b with z | ⟨ob,xs,z⟩
          · rw [q] at z;cases z
          · have z2:=un.frzs b ob _ z;obtain ⟨e1,_⟩:=hok b _ z;obtain ⟨e2,_⟩:=hok' b _ z2;rw [e] at e1;cases e1;exact e2
  cases hk:K.lookup a with
  | some o =>
    -- the script is one of the module's own objects
    have e:=KX a o hk;rw [ha] at e;cases e;refine core (fun _=>none) (fun _=>.inl rfl) (.inr ⟨_,vs.toArray,_,hk,rfl,rfl,rfl,by rw [List.size_toArray,lenV];exact hl,by simpa using rv⟩) (fun b u z=>by have z':(none:Option HO)=some u:=z;cases z') (fun b z=>absurd rfl z) fun z=>absurd rfl z
  | none =>
    refine core (fun b=>if b=a then some (.frz { cls:=.type "list", data:=.seq vs.toArray } (.lst (ns.map V.int))) else none) (fun b=>?_) (.inl (.inr ⟨{ cls:=.type "list", data:=.seq vs.toArray },if_pos rfl⟩)) (fun b u z=>?_) (fun b z=>?_) fun _=>hk
    · by_cases hb:b=a
      · exact .inr ⟨_,_,if_pos hb⟩
      · exact .inl (if_neg hb)
    · by_cases hb:b=a
      · have z':=(if_pos hb).symm.trans z;cases z';subst hb;exact ⟨ha,by rw [List.length_map];exact hl,vs,_,rv,ha⟩
      · have z':=(if_neg hb).symm.trans z;cases z'
    · by_cases hb:b=a
      · exact hb
      · exact absurd (if_neg hb) z
theorem walk_of {l:W.OpenLaw} {n k:Nat} {q:Program} {loose:List Str} {XP:(Str->Option Value)->Heap->Prop} {YP:World->Heap->Prop} {d:DefRec} {K:Params->W.Frag} {CX:World->Sq} {sp:World->Sp} {x:Str}
    (hn:l.most=some n) (hn2:n<=sizeLine) (hdf:d.params.defaults=[]) (hr:Room k callerA)
    (hY:∀ (w:World) (h:Heap),YP w h->(K w.params).In h)
    (F:∀ (w:World) (mg:Str->Option Value) (fa:Addr) (h:Heap),(K w.params).In h->h.Ns mainGlobals mg->mg d.name=some (.ref fa) ->
      ∃ fd:FuncData,(∀ (s:Shared) (u:Value),BindsTo s fd ⟨[u],[]⟩ [(x,u)]) /\
        ∀ base:Heap,(K w.params).In base->base.Ns mainGlobals mg->FnOk l.prog w (K w.params) mg base (CX w) k fa fd [x] (sp w))
    (hsp:∀ (w:World) (H:Hp) (a:Addr) (ns:List Int),ns.length<=n->Vu H->CP (K w.params) H a (ns.map V.int)->sp w [.ref a] H (fun v _=>v=.bl true) fun _ _ _=>False)
    (hCX:∀ (w:World) (H:Hp) (s:Shared) (e:Value) (s':Shared),CX w [] H s (fun _ _ _=>False) e s'->False) :
    W.WalkO q loose XP YP l.row.toRowW d [] (fun f vs=>PySem.call f vs):=by
  refine Att.attach_call hn hdf fun w s₀ s₁ mg mb fa o pm cd doc a vs ns G Y ho hd hcd hmg hobj hints hlen hg=>?_
  have KX:=hY w _ Y;obtain ⟨fd,hb,hF⟩:=F w mg fa _ KX G.T.g hmg;exact Qr KX G.T.g G.T.b G.T.builtins G.T.nolimit hg hobj hints (Nat.le_trans hlen hn2) hr hF hb (fun H hO hS=>hsp w H a ns hlen hO hS) fun H e s'=>hCX w H s₁ e s'
noncomputable def Ae (s:Stmt):Arguments:=match s with
 | .FunctionDef _ a _ _ _ _ _ _ _ _=>a
 | _=>{ posonlyargs:=[],args:=[],vararg:=none,kwonlyargs:=[],kw_defaults:=[],kwarg:=none,defaults:=[] }
noncomputable def AR (s:Stmt):List Stmt:=match s with
 | .FunctionDef _ _ b _ _ _ _ _ _ _=>b
 | _=>[]
noncomputable def AG (s:Stmt):Scope:=match s with
 | .FunctionDef _ _ _ _ _ _ sc _ _ _=>sc
 | _=>{ kind:=.function,names:=[],isGenerator:=false,isCoroutine:=false }
abbrev Oj:Sq:=fun _ _ _ _ _ _=>False
abbrev E0:XK:=fun _ _ _=>False
theorem WR {X:Cx}:Iw Oj X E0:=fun _ _ _ _ _ _ _ h=>h.elim
structure Fun (K:W.Frag) (x qual:Str) (st:Stmt) (f:Addr) (fd:FuncData):Prop where
 ex:∃ (oc:Value) (od:Option Addr) (kV doc pm:Value) (an:Option Addr) (cdv ct:Value) (osl:Array (Option Value)),
  fd=W.fnOf x qual (Ae st) (AR st) (AG st) .none kV doc pm an cdv ct/\K.lookup f=some ⟨oc,od,.func fd,osl⟩/\W.codeIn K cdv qual=true
 kp:W.keepIn K (.ref f)=true
section
variable {P:Program} {w:World} {K:W.Frag} {mg:Str->Option Value} {base:Heap}
theorem Fun.ok {x qual:Str} {st:Stmt} {f:Addr} {fd:FuncData} {N ps:List Str} {k:Nat} {sp:Sp} (F:Fun K x qual st f fd) (S:FnScope N ps (AG st)) (len:∀ vs H Q E,sp vs H Q E->vs.length=ps.length)
    (hbody:∀ (cdv:Value) (A:Around) (outer:List Env) (s:Shared) (H:Hp) (vs:List V) (Q:VK) (E:XK),Room k (A.deeper (envOfC qual (AG st) s.heap.objs.size f cdv))->sp vs H Q E ->
      ∃ t,Ce (KG Oj P w K mg base N qual (AG st) f cdv A outer s H E).nox (AR st) t/\t { nx:=fun _ H'=>Q .non H',rt:=Q } (start N vs) H):FnOk P w K mg base Oj (k+1) f fd ps sp:=by
  obtain ⟨oc,od,kV,doc,pm,an,cdv,ct,osl,rfl,lk,hcd⟩:=F.ex;refine cP lk hcd S len fun A outer s H vs Q E hr hsp=>?_
  obtain ⟨t,h,q⟩:=hbody cdv A outer s H vs Q E hr hsp;exact ⟨t,h.nox,q⟩
theorem Fun.binds {x qual:Str} {st:Stmt} {f:Addr} {fd:FuncData} {ps:List Str} (F:Fun K x qual st f fd)
    (h:∀ (kV doc pm:Value) (an:Option Addr) (cdv ct:Value) (us:List Value),us.length=ps.length->bindArgs (W.fnOf x qual (Ae st) (AR st) (AG st) .none kV doc pm an cdv ct) ⟨us,[]⟩=pure (ps.zip us)):Binds K fd ps []:=by
  obtain ⟨oc,od,kV,doc,pm,an,cdv,ct,osl,rfl,lk,hcd⟩:=F.ex;exact .all (h kV doc pm an cdv ct)
theorem ZE {x qual:Str} {st:Stmt} {f:Addr} {oc:Value} {od an:Option Addr} {osl:Array (Option Value)} {kV doc pm cdv ct:Value} (l:K.lookup f=some ⟨oc,od,.func (W.fnOf x qual (Ae st) (AR st) (AG st) .none kV doc pm an cdv ct),osl⟩)
    (c:W.codeIn K cdv qual=true) (k:W.keepIn K (.ref f)=true):Fun K x qual st f (W.fnOf x qual (Ae st) (AR st) (AG st) .none kV doc pm an cdv ct):=⟨⟨oc,od,kV,doc,pm,an,cdv,ct,osl,rfl,l,c⟩,k⟩
end
section
variable {X:Cx}
theorem pv (i:Nat) {x:Str} {pos:Pos} (hN:X.N[i]?=some x:=by rfl) (hv:aG X.env.scope x:=by first | exact Or.inl rfl | exact Or.inr (Or.inl rfl) | exact Or.inr (Or.inr rfl)) (hd:(x == ("__debug__" : Str))=false:=by decide)
    (hcd:(x == ("__classdict__" : Str))=false:=by decide):PE X (.Name x pos) (Fm i):=QS hN hv hd hcd
end
def Lw (H H':Hp):Prop:=∀ b o,H b=some o->H' b=some o
noncomputable def AL (sc:Scope) (x:Str):Bool:=match sc.names.lookup x with | some .cell=>true | _=>false
def Cx.inner (X:Cx) (scope:Scope) (cl:List (Str×Addr)) (C:Addr) (s:Shared) (H:Hp) (fp:List Addr):Cx:=
 { X with s₀:=s,H₀:=H,env:=compEnvC scope cl C X.env,outer:=X.stack,ex:=fp,fn:=AL scope,xe:=fun _ _=>False }
theorem Ab {scope:Scope} {env:Env} {x:Str}:∀ {names:List (Str×NameKind)}, 
    ((names.map fun (n,k)=>if (k == NameKind.free && env.scope.kind == .function && env.kindOf n == some .cell) then (n,NameKind.cell) else (n,k)).lookup x=some .cell \/
     (names.map fun (n,k)=>if (k == NameKind.free && env.scope.kind == .function && env.kindOf n == some .cell) then (n,NameKind.cell) else (n,k)).lookup x=some .free) ->
    names.lookup x=some .cell\/names.lookup x=some .free
  | [],h=>by simp at h
  | (n,k)::r,h=>by
    have ih:=@Ab scope env x r;cases hx:x == n with
    | true =>
      simp only [List.map_cons,List.lookup_cons] at h ⊢
      by_cases hc:(k == NameKind.free && env.scope.kind == .function && env.kindOf n == some .cell)=true
      · have hk:k=.free:=by
          simp only [Bool.and_eq_true,beq_iff_eq] at hc;exact hc.1.1
        right;simp [hx,hk]
      · rw [if_neg hc] at h;simp only [List.lookup_cons,hx] at h ⊢;exact h
    | false =>
      simp only [List.map_cons,List.lookup_cons] at h ⊢
      by_cases hc:(k == NameKind.free && env.scope.kind == .function && env.kindOf n == some .cell)=true
      · rw [if_pos hc] at h;simp only [List.lookup_cons,hx] at h ⊢;exact ih h
      · rw [if_neg hc] at h;simp only [List.lookup_cons,hx] at h ⊢;exact ih h
theorem CF {env:Env} {x:Str}:∀ {names:List (Str×NameKind)}, 
    (names.map fun (n,k)=>if (k == NameKind.free && env.scope.kind == .function && env.kindOf n == some .cell) then (n,NameKind.cell) else (n,k)).lookup x=some .local ->
    names.lookup x=some .local
  | [],h=>by simp at h
  | (n,k)::r,h=>by
    have ih:=@CF env x r;cases hx:x == n with
    | true =>
      simp only [List.map_cons,List.lookup_cons] at h ⊢
      by_cases hc:(k == NameKind.free && env.scope.kind == .function && env.kindOf n == some .cell)=true
      · rw [if_pos hc] at h;simp only [List.lookup_cons,hx] at h;cases h
      · rw [if_neg hc] at h;simp only [List.lookup_cons,hx] at h ⊢;exact h
    | false =>
      simp only [List.map_cons,List.lookup_cons] at h ⊢
      by_cases hc:(k == NameKind.free && env.scope.kind == .function && env.kindOf n == some .cell)=true
      · rw [if_pos hc] at h;simp only [List.lookup_cons,hx] at h ⊢;exact ih h
      · rw [if_neg hc] at h;simp only [List.lookup_cons,hx] at h ⊢;exact ih h
theorem Gh {scope:Scope} {env:Env} (hhas:∀ x,scope.names.lookup x=some .free->∃ c,env.cells.lookup x=some c) (hnd:∀ x k,(x,k)∈scope.names->k=.free->scope.names.lookup x=some .free) :
    ∃ cl,closureFor scope env=pure cl/\(∀ x c,cl.lookup x=some c->env.cells.lookup x=some c)/\∀ x,scope.names.lookup x=some .free->∃ c,cl.lookup x=some c:=by
  have go:∀ (names:List (Str×NameKind)) (cs:List (Str×Addr)),(∀ x k,(x,k)∈names->k=.free->∃ c,env.cells.lookup x=some c)->(∀ x c,cs.lookup x=some c->env.cells.lookup x=some c) ->
      ∃ cl,(forIn names cs (fun (x:Str×NameKind) (r:List (Str×Addr))=>(if (x.2 == NameKind.free)=true then (cellOf env x.1 >>= fun c=>(pure (ForInStep.yield ((x.1,c)::r)):Sem _)) else pure (ForInStep.yield r))))=(pure cl:Sem _) /\
        (∀ x c,cl.lookup x=some c->env.cells.lookup x=some c)/\(∀ x,(cs.lookup x).isSome=true->(cl.lookup x).isSome=true)/\∀ x,(x,NameKind.free)∈names->(cl.lookup x).isSome=true:=by
    intro names
    induction names with
    | nil=>intro cs _ h2;exact ⟨cs,by simp,h2,fun _ z=>z,fun _ z=>by simp at z⟩
    | cons p r ih =>
      intro cs h1 h2;obtain ⟨n,k⟩:=p
      by_cases hk:k=.free
      · subst hk;obtain ⟨c,hc⟩:=h1 n _ List.mem_cons_self rfl;have hcell:cellOf env n=pure c:=by unfold cellOf;rw [hc]
        obtain ⟨cl,e,a,b,d⟩:=ih ((n,c)::cs) (fun x k hx hk=>h1 x k (List.mem_cons_of_mem _ hx) hk) (fun x c' hx=>by
          rw [List.lookup_cons] at hx;cases hxn:x == n with
          | true => rw [hxn] at hx; simp at hx; subst hx; have : x = n := by simpa using hxn
                    rw [this];exact hc
          | false=>rw [hxn] at hx;exact h2 x c' hx)
        refine ⟨cl,?_,a,fun x hx=>b x ?_,fun x hx=>?_⟩
        · rw [List.forIn_cons];simp only [hcell];simpa using e
        · rw [List.lookup_cons];cases hxn:x == n with
          | true=>rfl
          | false=>exact hx
        · rcases List.mem_cons.mp hx with z | z
          · injection z with z1 _
            subst z1;exact b x (by rw [List.lookup_cons];simp)
          · exact d x z
      · have hb:(k == NameKind.free)=false:=by simpa using hk
        obtain ⟨cl,e,a,b,d⟩:=ih cs (fun x k hx hk=>h1 x k (List.mem_cons_of_mem _ hx) hk) h2;refine ⟨cl,?_,a,b,fun x hx=>?_⟩
        · rw [List.forIn_cons];simp only [hb];simpa using e
        · rcases List.mem_cons.mp hx with z | z
          · injection z with _ z2
            exact absurd z2.symm hk
          · exact d x z
  obtain ⟨cl,e,a,_,d⟩:=go scope.names [] (fun x k hx hk=>hhas x (hnd x k hx hk)) (fun x c h=>by simp at h);refine ⟨cl,?_,a,fun x hx=>Option.isSome_iff_exists.mp (d x (PySem.mem_of_lookup hx))⟩;unfold closureFor;simpa using e
theorem Aj:∀ (names:List (Str×NameKind)) (n:Nat) (acc:List (Str×Addr)),cellsFrom n names acc=cellsFrom n names []++acc
 | [],n,acc=>by simp [cellsFrom]
 | (x,k)::r,n,acc=>by
  unfold cellsFrom;split
  ·rw [Aj r (n+1) ((x,n)::acc),Aj r (n+1) [(x,n)],List.append_assoc];rfl
  ·exact Aj r n acc
theorem CH {x:Str} {c:Addr}:∀ (names:List (Str×NameKind)) (n:Nat),(x,c)∈cellsFrom n names []->(x,NameKind.cell)∈names
 | [],n,h=>by simp [cellsFrom] at h
 | (y,k)::r,n,h=>by
  unfold cellsFrom at h;split at h
  ·rename_i hk;have hk:k=.cell:=by simpa using hk
   rw [Aj] at h;rcases List.mem_append.mp h with h | h
   ·exact List.mem_cons_of_mem _ (CH r _ h)
   ·rw [List.mem_singleton] at h;cases h;rw [hk];exact List.mem_cons_self
  ·exact List.mem_cons_of_mem _ (CH r _ h)
theorem CJ {x:Str}:∀ (names:List (Str×NameKind)) (n:Nat),(x,NameKind.cell)∈names->∃ c,(cellsFrom n names []).lookup x=some c
 | [],n,h=>by cases h
 | (y,k)::r,n,h=>by
  unfold cellsFrom
  by_cases hr:(x,NameKind.cell)∈r
  ·split
   ·rw [Aj];obtain ⟨c,e⟩:=CJ r (n+1) hr;exact ⟨c,by rw [List.lookup_append,e];rfl⟩
   ·exact CJ r n hr
  ·rcases List.mem_cons.mp h with e | e
   ·cases e;simp only [beq_self_eq_true,if_true];rw [Aj];cases q:(cellsFrom (n+1) r []).lookup x with
    | some c=>exact ⟨c,by rw [List.lookup_append,q];rfl⟩
    | none=>exact ⟨n,by rw [List.lookup_append,q];simp⟩
   ·exact absurd e hr
theorem Bg {M:Model} {A:Around} {E:Value->Shared->Prop} {s:Shared} {scope:Scope} {globals:Addr} {closure:List (Str×Addr)} {qual:Str} {outer:Env} {Q:Env->Shared->Prop}
    (hQ:Q { scope:=scope,locals:=s.heap.objs.size,globals:=globals,cells:=cellsFrom (s.heap.objs.size+1) scope.names closure,qual:=qual,func:=none,code:=outer.code,frame:=outer.frame,builtins:=outer.builtins } { s with heap:=pushCells (s.heap.push { cls:=.type "dict", data:=.dict #[] }) scope.names }) :
    wpAny M A (newFunctionEnv scope globals closure [] qual none .none (some outer)) Q E s:=by
  simp only [newFunctionEnv,Option.isSome_some,if_true];refine wpAny_bind (wpAny_alloc ?_);refine wpAny_bind (wpAny_layCells _ (fun name kind cells=>by cases hkc:kind == NameKind.cell<;>simp [hkc]) _ _ _ _ ?_)
  rw [show ({ s with heap:=s.heap.push { cls:=.type "dict", data:=.dict #[] } }:Shared).heap.objs.size=s.heap.objs.size+1 from Heap.size_push ..]
  rw [List.forIn_nil];exact wpAny_bind (wpAny_pure (wpAny_pure hQ))
noncomputable def innerOk (N:List Str) (sc scope:Scope) (js:List Nat):Bool:=
 (match scope.kind with | .function=>true | _=>false) &&
 scope.names.all (fun p=>(match p.2 with
  | .cell=>(match scope.names.lookup p.1 with | some .cell=>true | _=>false)
  | .local=>(match scope.names.lookup p.1 with | some .local=>true | _=>false)
  | .free=>(match scope.names.lookup p.1 with | some .free=>true | _=>false) && (match sc.names.lookup p.1 with | some .cell=>true | some .free=>true | _=>false)
  | _=>true)) &&
 (N.zipIdx.all fun p=>(match scope.names.lookup p.1 with | some .local=>js.contains p.2 | some .cell=>js.contains p.2 | _=>true))
structure InnerIn (N:List Str) (sc scope:Scope) (js:List Nat):Prop where
 kind:scope.kind=.function
 uniqC:∀ x k,(x,k)∈scope.names->k=.cell->scope.names.lookup x=some .cell
 uniqL:∀ y∈scope.names,y.2=.local->scope.names.lookup y.1=some .local
 uniqF:∀ x k,(x,k)∈scope.names->k=.free->scope.names.lookup x=some .free
 fr:∀ x,scope.names.lookup x=some .free->sc.names.lookup x=some .cell\/sc.names.lookup x=some .free
 jsl:∀ (i:Nat) x,N[i]?=some x->scope.names.lookup x=some .local\/scope.names.lookup x=some .cell->i∈js
theorem GZ {N:List Str} {sc scope:Scope} {js:List Nat} (h:innerOk N sc scope js=true):InnerIn N sc scope js:=by
  unfold innerOk at h;rw [Bool.and_eq_true,Bool.and_eq_true] at h;obtain ⟨⟨h1,h2⟩,h3⟩:=h;rw [List.all_eq_true] at h2 h3;refine ⟨?_,fun x k hy e=>?_,fun y hy e=>?_,fun x k hy e=>?_,fun x e=>?_,fun i x e1 e2=>?_⟩
  · cases q:scope.kind<;>rw [q] at h1<;>first | rfl | cases h1
  · have:=h2 _ hy;rw [e] at this;dsimp only at this;split at this
    · assumption
    · cases this
  · have:=h2 y hy;rw [e] at this;dsimp only at this;split at this
    · assumption
    · cases this
  · have:=h2 _ hy;rw [e] at this;dsimp only at this;rw [Bool.and_eq_true] at this;have:=this.1;split at this
    · assumption
    · cases this
  · have:=h2 _ (PySem.mem_of_lookup e);dsimp only at this;rw [Bool.and_eq_true] at this;have:=this.2;split at this
    · left;assumption
    · right;assumption
    · cases this
  · have hm:(x,i)∈N.zipIdx:=by
      rw [List.mem_zipIdx_iff_getElem?];exact e1
    have:=h3 _ hm;dsimp only at this;rcases e2 with e2 | e2
    · rw [e2] at this;dsimp only at this;simpa using this
    · rw [e2] at this;dsimp only at this;simpa using this
def blank (js:List Nat) (σ:St):St:=js.foldl (fun σ j=>σ.set j none) σ
theorem blank_length (js:List Nat):∀ σ:St,(blank js σ).length=σ.length:=by
 induction js with
 | nil=>intro σ;rfl
 | cons j r ih=>intro σ;unfold blank;rw [List.foldl_cons];have:=ih (σ.set j none);unfold blank at this;rw [this,List.length_set]
theorem FE (js:List Nat):∀ (σ:St) (i:Nat) (v:V),(blank js σ)[i]?=some (some v)->i∉js/\σ[i]?=some (some v):=by
 induction js with
 | nil=>intro σ i v h;exact ⟨by simp,h⟩
 | cons j r ih =>
  intro σ i v h;unfold blank at h;rw [List.foldl_cons] at h;obtain ⟨a,b⟩:=ih (σ.set j none) i v h
  by_cases e:i=j
  ·subst e
   by_cases hl:i < σ.length
   ·rw [List.getElem?_set_self hl] at b;cases b
   ·rw [List.getElem?_eq_none (by rw [List.length_set];omega)] at b;cases b
  ·rw [List.getElem?_set_ne (Ne.symm e)] at b;exact ⟨by simp [e,a],b⟩
def Oq (js:List Nat) (g:TG):Prop:=∀ x σ H Q,g x σ H Q->g x σ H fun σ2 H2=>(σ2.length=σ.length/\∀ i,i∉js->σ2[i]?=σ[i]?)/\Q σ2 H2
theorem Qx {j:Nat} {js:List Nat} (h:j∈js):Oq js (Cv j):=fun x σ H Q q=>⟨⟨List.length_set ..,fun i hi=>List.getElem?_set_ne (fun (e:j=i)=>hi (e▸h))⟩,q⟩
def Oi (js:List Nat) (g:Lv):Prop:=∀ x σ H Q,g x σ H Q->g x σ H fun σ2 H2=>(σ2.length=σ.length/\∀ i,i∉js->σ2[i]?=σ[i]?)/\Q σ2 H2
theorem Qw {js:List Nat}:Oi js ZC:=fun x σ H Q ⟨e,q⟩=>⟨e,⟨rfl,fun _ _=>rfl⟩,q⟩
theorem Nx {j:Nat} {js:List Nat} {u:Lv} (h:j∈js) (hu:Oi js u):Oi js (Qz (Cv j) u):=by
 rintro x σ H Q ⟨v,r,e,q⟩;refine ⟨v,r,e,?_⟩;have:=hu r (σ.set j (some v)) H Q q;show u r (σ.set j (some v)) H _;have key:∀ (P P':St->Hp->Prop),(∀ a b,P a b->P' a b)->True:=fun _ _ _=>trivial
 have e2:(fun σ2 H2=>(σ2.length=(σ.set j (some v)).length/\∀ (i:Nat),i∉js->σ2[i]?=(σ.set j (some v))[i]?)/\Q σ2 H2)=(fun σ2 H2=>(σ2.length=σ.length/\∀ (i:Nat),i∉js->σ2[i]?=σ[i]?)/\Q σ2 H2):=by
  funext σ2 H2;have e3:(∀ (i:Nat),i∉js->σ2[i]?=(σ.set j (some v))[i]?)=(∀ (i:Nat),i∉js->σ2[i]?=σ[i]?):=by
   apply propext;constructor
   ·intro k i hi;rw [k i hi,List.getElem?_set_ne (fun (e:j=i)=>hi (e▸h))]
   ·intro k i hi;rw [k i hi,List.getElem?_set_ne (fun (e:j=i)=>hi (e▸h))]
  rw [e3,List.length_set]
 rw [e2] at this;exact this
theorem Uj {K:W.Frag} {n:Nat} {js:List Nat} {u:Lv} (hu:Oi js u):Oq js (ZA K n u):=by
 rintro x σ H Q ⟨a,xs,e,hq,hl,q⟩;exact ⟨a,xs,e,hq,hl,hu _ _ _ _ q⟩
section
variable {X:Cx} {pins:List (Addr×Obj)} {σ:St} {H:Hp} {s:Shared} {scope:Scope} {cl:List (Str×Addr)} {js:List Nat} {fp:List Addr} {C D:Addr}
theorem Inv.notStk (I:Inv X pins σ H s) {a:Addr} (h:s.heap.objs.size<=a):a∉Mb X.stack:=fun hb=>by
 rcases List.mem_cons.mp (I.stkSub a hb) with e | e
 ·exact absurd (Nat.lt_of_lt_of_le I.lt (e▸h)) (Nat.lt_irrefl _)
 ·exact I.nofs h e
theorem Inv.cellLt (I:Inv X pins σ H s) {x:Str} {c:Addr} (e:X.env.cells.lookup x=some c):c < s.heap.objs.size:=by
 obtain ⟨v,q⟩:=I.cell x c e;exact q.lt
theorem Inv.pinLt (I:Inv X pins σ H s) {p:Addr×Obj} (hp:p∈X.pn++pins):p.1 < s.heap.objs.size:=Heap.lt_size (I.pin p hp).1
structure Celz (X:Cx) (scope:Scope) (cl:List (Str×Addr)) (s:Shared) (C:Addr):Prop where
 old:∀ x c,cl.lookup x=some c->AL scope x=false->X.env.cells.lookup x=some c
 own:∀ x c,cl.lookup x=some c->AL scope x=true->s.heap.objs.size<=c/\C < c
 inj:∀ x y c,cl.lookup x=some c->cl.lookup y=some c->AL scope x=true->AL scope y=true->x=y
 fr:∀ x,scope.names.lookup x=some .free->∃ c,cl.lookup x=some c
 has:∀ x,AL scope x=true->∃ c,cl.lookup x=some c
theorem Celz.ne (L:Celz X scope cl s C) {x:Str} {c b:Addr} (e:cl.lookup x=some c) (hb:b < s.heap.objs.size) (h:∀ x c,X.env.cells.lookup x=some c->c≠b):c≠b:=by
 cases q:AL scope x with
 | false=>exact h x c (L.old x c e q)
 | true=>exact Nat.ne_of_gt (Nat.lt_of_lt_of_le hb (L.own x c e q).1)
theorem VR {cl0:List (Str×Addr)} (hin:InnerIn X.N X.env.scope scope js) (hcl:∀ x c,cl0.lookup x=some c->X.env.cells.lookup x=some c) (hfr:∀ x,scope.names.lookup x=some .free->∃ c,cl0.lookup x=some c)
    {h:Heap} (hC:s.heap.objs.size<=C) (hs:h.objs.size=C+1):Celz X scope (cellsFrom (C+1) scope.names cl0) s C/\∀ x c,(cellsFrom (C+1) scope.names cl0).lookup x=some c->AL scope x=true->∃ v,(pushCells h scope.names).IsCell c v:=by
  have ok:=cellsFrom_ok scope.names h (C+1) [] ⟨fun _ _ hm=>(nomatch hm),List.Pairwise.nil⟩ (by rw [hs];exact Nat.le_refl _);rw [hs] at ok;rw [Aj];generalize hw:cellsFrom (C+1) scope.names []=own at ok;have mem:∀ x c,own.lookup x=some c->AL scope x=true:=fun x c e=>by
    have:=hin.uniqC x _ (CH scope.names (C+1) (by rw [hw];exact PySem.mem_of_lookup e)) rfl;unfold AL;rw [this]
  have has:∀ x,AL scope x=true->∃ c,own.lookup x=some c:=fun x e=>by
    unfold AL at e;split at e
    · rename_i q;obtain ⟨c,z⟩:=CJ scope.names (C+1) (PySem.mem_of_lookup q);rw [hw] at z;exact ⟨c,z⟩
    · cases e
  have yes:∀ x c,(own++cl0).lookup x=some c->AL scope x=true->own.lookup x=some c:=fun x c e q=>by
    obtain ⟨c',z⟩:=has x q;rw [List.lookup_append,z] at e;rw [z];exact e
  have no:∀ x,AL scope x=false->(own++cl0).lookup x=cl0.lookup x:=fun x q=>by
    rw [List.lookup_append];cases z:own.lookup x with
    | none=>rfl
    | some c=>rw [mem x c z] at q;cases q
  refine ⟨⟨fun x c e q=>hcl x c (by rw [<- no x q];exact e),fun x c e q=>?_,fun x y c e1 e2 q1 q2=>?_,fun x e=>?_,fun x q=>?_⟩,fun x c e q=>?_⟩
  · have:=(ok.empty x c (PySem.mem_of_lookup (yes x c e q))).2;exact ⟨Nat.le_trans hC (Nat.le_of_succ_le this),this⟩
  · exact PySem.name_of_addr ok.apart (PySem.mem_of_lookup (yes x c e1 q1)) (PySem.mem_of_lookup (yes y c e2 q2))
  · obtain ⟨c,z⟩:=hfr x e;exact ⟨c,by rw [no x (by unfold AL;rw [e])];exact z⟩
  · obtain ⟨c,z⟩:=has x q;exact ⟨c,by rw [List.lookup_append,z];rfl⟩
  · exact ⟨none,(ok.empty x c (PySem.mem_of_lookup (yes x c e q))).1⟩
theorem Inv.innerOk (I:Inv X pins σ H s) (hin:InnerIn X.N X.env.scope scope js) (hf:∀ b∈fp,FpOk X pins H b) (hfe:∀ b∈fp,b < s.heap.objs.size) (hC:s.heap.objs.size<=C)
    (L:Celz X scope cl s C):(X.inner scope cl C s H fp).Ok where
  mod:=I.ok.mod
  kind:=hin.kind
  glob:=I.ok.glob
  blt:=I.ok.blt
  above:=hC
  inj:=fun x y c a b=>by
    cases hx:AL scope x<;>cases hy:AL scope y
    · exact I.ok.inj x y c (L.old x c a hx) (L.old y c b hy)
    · exact absurd (I.cellLt (L.old x c a hx)) (Nat.not_lt.mpr (L.own y c b hy).1)
    · exact absurd (I.cellLt (L.old y c b hy)) (Nat.not_lt.mpr (L.own x c a hx).1)
    · exact L.inj x y c a b hx hy
  has:=fun x h=>by
    rcases Ab (scope:=scope) (env:=X.env) (names:=scope.names) h with q | q
    · exact L.has x (by unfold AL;rw [q])
    · exact L.fr x q
  cab:=fun x c h e=>(L.own x c e h).1
  hd:=I.ok.hd
  frames:=I.ok.frames
  stk:=.inl rfl
  exf:=fun b hb=>⟨Nat.ne_of_lt (Nat.lt_of_lt_of_le (hfe b hb) hC),fun x c e=>L.ne e (hfe b hb) (hf b hb).2.2.2.2.1⟩
  bs:=I.bs
  bsz:=Nat.le_trans I.ok.bsz I.sz
  noex:=fun b o e hb=>by
    rcases (hf b hb).2.2.2.1 with z | z
    · exact I.ok.noex b o e z
    · exact absurd (Nat.lt_of_lt_of_le (Heap.lt_size e) (Nat.le_trans I.ok.bsz z)) (Nat.lt_irrefl _)
  exfs:=fun b hb z=>by
    rcases List.mem_cons.mp (I.stkSub b z) with e | e
    · exact (hf b hb).2.1 e
    · exact (hf b hb).2.2.1 e
  funs:=I.stack
  frf:=I.stkFree
theorem Inv.enter {h':Heap} {tk:Nat} {o:Obj} (I:Inv X pins σ H s) (hin:InnerIn X.N X.env.scope scope js) (hf:∀ b∈fp,FpOk X pins H b) (hfe:∀ b∈fp,b < s.heap.objs.size) (hC:s.heap.objs.size<=C) (hD:s.heap.objs.size<=D) (hDC:D≠C)
    (L:Celz X scope cl s C) (hown:∀ x c,cl.lookup x=some c->AL scope x=true->∃ v,h'.IsCell c v)
    (k:∀ b u,s.heap.get? b=some u->h'.get? b=some u) {m:Str->Option Value} (hns:h'.Ns C m) (ho:h'.get? D=some o) (hoc:∀ v,o.data≠.cell v) :
    Inv (X.inner scope cl C s H fp) (pins++[(D,o)]) (blank js σ) H { s with heap:=h',toks:=tk } where
  ok:=I.innerOk hin hf hfe hC L
  os:=rfl
  bare:=I.bare
  base:=Un.kept k
  loc:=by
    refine ⟨m,hns,fun i x v e1 e2 e3=>?_⟩;obtain ⟨hj,e2⟩:=FE js σ i v e2;have free:scope.names.lookup x=some .free:=by
      rcases e3 with q | q | q
      · exact absurd (hin.jsl i x e1 (.inl (CF (env:=X.env) (names:=scope.names) q))) hj
      · rcases Ab (scope:=scope) (env:=X.env) (names:=scope.names) (.inl q) with z | z
        · exact absurd (hin.jsl i x e1 (.inr z)) hj
        · exact z
      · rcases Ab (scope:=scope) (env:=X.env) (names:=scope.names) (.inr q) with z | z
        · exact absurd (hin.jsl i x e1 (.inr z)) hj
        · exact z
    have kx:=hin.fr x free;obtain ⟨m0,hn0,hl0⟩:=I.loc;obtain ⟨u,r,l⟩:=hl0 i x v e1 e2 (kx.elim (fun z=>.inr (.inl z)) fun z=>.inr (.inr z));refine ⟨u,r,?_⟩;rcases l with ⟨z,_⟩ | ⟨_,c,hc,hcell⟩
    · have z':X.env.scope.names.lookup x=some .local:=z;rcases kx with y | y
      · rw [y] at z';cases z'
      · rw [y] at z';cases z'
    · obtain ⟨c',hc'⟩:=L.fr x free;have:c'=c:=by
        have q:=L.old x c' hc' (by unfold AL;rw [free]);rw [hc] at q;exact (Option.some.inj q).symm
      subst this;obtain ⟨oc,q1,q2⟩:=hcell;refine .inr ⟨?_,c',hc',oc,k _ _ q1,q2⟩;rcases e3 with q | q | q
      · have:=CF (env:=X.env) (names:=scope.names) q;rw [free] at this;cases this
      · exact .inl q
      · exact .inr q
  cell:=fun x c e=>by
    cases q:AL scope x with
    | true=>exact hown x c e q
    | false =>
      obtain ⟨v,oc,q1,q2⟩:=I.cell x c (L.old x c e q);exact ⟨v,oc,k _ _ q1,q2⟩
  free:=I.hok.fresh hC
  freeC:=fun x c e=>by
    cases q:AL scope x with
    | true=>exact I.hok.fresh (L.own x c e q).1
    | false=>exact I.freeC x c (L.old x c e q)
  pin:=fun p hp=>by
    have hp':p∈X.pn++(pins++[(D,o)]):=hp;rw [<- List.append_assoc] at hp';rcases List.mem_append.mp hp' with z | z
    · obtain ⟨a1,a2,a3,a4,a5⟩:=I.pin p z;refine ⟨k _ _ a1,a2,Nat.ne_of_lt (Nat.lt_of_lt_of_le (Heap.lt_size a1) hC),fun q=>?_,a5⟩;rcases List.mem_cons.mp (I.stkSub p.1 q) with e | e
      · exact a3 e
      · exact a4 e
    · have e:p=(D,o):=by simpa using z
      subst e;exact ⟨ho,I.hok.fresh hD,hDC,I.notStk hD,hoc⟩
  hok:=I.hok.kept k
  len:=(blank_length js σ).trans I.len
theorem Inv.leave {Y:Cx} {H':Hp} {s':Shared} {τ:St} {pl:List (Addr×Obj)} {ys:List V} {its:List Value} {n:Nat} (I:Inv X pins σ H s) (hf:∀ b∈fp,FpOk X pins H b) (hY:Y=X.inner scope cl C s H fp) (J:Inv Y pl τ H' s') (hD:s.heap.objs.size<=D)
    (hHD:H' D=none) (hz:ys.length<=sizeLine) (hv:AE ys its) (ho:s'.heap.get? D=some { cls:=.type "list", data:=.seq its.toArray n }) :
    Inv X pins σ (upd H' D (.lst ys)) s':=by
  subst hY;have un:Un (Mb X.stack) fp H H' s.heap s'.heap:=J.base;have ne:∀ {b:Addr} {o:Obj},s.heap.get? b=some o->b≠D:=fun e=>Nat.ne_of_lt (Nat.lt_of_lt_of_le (Heap.lt_size e) hD)
  have nH:∀ {b:Addr} {o:HO},H' b=some o->b≠D:=fun e z=>by rw [z,hHD] at e;cases e
  have un':Un (Mb X.stack) fp H (upd H' D (.lst ys)) s.heap s'.heap:=
    ⟨un.keep,un.slot,fun b o e n' hx=>by rw [AQ (ne e)];exact un.free b o e n' hx,un.there,fun b xs e=>by have:=un.tups b xs e;rw [AQ (nH this)];exact this,
      fun b o u e=>by have:=un.frzs b o u e;rw [AQ (nH this)];exact this,fun b ps e=>by obtain ⟨more,q⟩:=un.tbls b ps e;exact ⟨more,by rw [AQ (nH q)];exact q⟩⟩
  have hok:Dm X.prog X.w (upd H' D (.lst ys)) s'.heap:=fun b u e=>by
    by_cases hb:b=D
    · subst hb;rw [BL] at e;cases e;exact ⟨hz,its,n,hv,ho⟩
    · rw [AQ hb] at e;exact (J.hok b u e).stay (fun _ _ _ q=>q) (fun c q=>by rw [AQ (nH q)];exact q) fun c xs q=>by rw [AQ (nH q)];exact q
  exact I.call' J.os un' hok J.bare fun b hb=>by
    obtain ⟨_,f1,_,f3,f4,f5⟩:=hf b hb;exact ⟨f3,f1,f4,f5⟩
end
section
end
section
end
section
variable {X:Cx}
def bG:V->Option Int->Option Int->Hp->VK->Prop:=fun x lo hi H Q=>∃ z,x=.str z/\z.length<=sizeLine/\Q (.str (Txt.slice z lo hi)) H
theorem XS:Oo X bG:=by
 intro pins s σ H x v vl vu lo hi sl Q I rx hs pl pu h;obtain ⟨z,rfl,hz,q⟩:=h;obtain ⟨t,rfl⟩:=rx;have fin:∀ t' k,EP X pins σ Q (.str (Txt.slice z lo hi) t') { s with toks:=k }:=fun t' k=>⟨.str _,H,I.tok k,⟨_,rfl⟩,q⟩
 refine ⟨"str", _,F.slot_str_getitem.lookup,typeIs_str _ _ _,?_⟩
 obtain ⟨o,e1,e2,e3⟩:=hs;cases pl with
 | none =>
  cases pu with
  | none=>exact wpAny_getItem_str_slice (l:=none) (u:=none) (st:=none) ⟨o,e1,e2,e3⟩ rfl (post_val_or_str ⟨Nat.le_trans (Txt.slice_le z _ _) hz,fin⟩)
  | int j uj=>exact wpAny_getItem_str_slice (l:=none) (u:=some (j,uj)) (st:=none) ⟨o,e1,e2,e3⟩ rfl (post_val_or_str ⟨Nat.le_trans (Txt.slice_le z _ _) hz,fin⟩)
 | int i ui =>
  cases pu with
  | none=>exact wpAny_getItem_str_slice (l:=some (i,ui)) (u:=none) (st:=none) ⟨o,e1,e2,e3⟩ rfl (post_val_or_str ⟨Nat.le_trans (Txt.slice_le z _ _) hz,fin⟩)
  | int j uj=>exact wpAny_getItem_str_slice (l:=some (i,ui)) (u:=some (j,uj)) (st:=none) ⟨o,e1,e2,e3⟩ rfl (post_val_or_str ⟨Nat.le_trans (Txt.slice_le z _ _) hz,fin⟩)
theorem Kn {ys:List Str}:∀ {us:List Value},AE (ys.map V.str) us->StrsAre us ys:=by
 induction ys with
 | nil=>intro us r;rw [List.map_nil] at r;cases r;exact .nil
 | cons n ns ih =>
  intro us r;rw [List.map_cons] at r;cases r with
  | cons r1 r2 =>
   obtain ⟨t,e⟩:=r1;subst e;exact .cons n t (ih r2)
def QD (K:W.Frag):V->List V->Hp->VK->Prop:=fun x vs H Q=>∃ sep l ys,x=.str sep/\vs=[.ref l]/\CP K H l (ys.map V.str)/\(ys.map (·.length)).sum+ys.length * sep.length<=16777216/\Q (.str (Txt.join sep ys)) H
theorem UZ:aJ X "str.join" (QD X.K):=by
 intro pins s σ H x vs v us Q I rx rv h;obtain ⟨sep,l,ys,rfl,rfl,hl,hz,q⟩:=h;obtain ⟨t,rfl⟩:=rx;obtain ⟨u,rfl,ru⟩:=rv.one;cases ru;obtain ⟨its,r,p,_⟩:=I.list hl;exact join_list p.isList (by simpa using Kn r) hz fun t' k=>⟨.str _,H,I.tok k,⟨_,rfl⟩,q⟩
end
structure Fx (P:Program) (w:World) (K:W.Frag) (mg:Str->Option Value) (base:Heap) (k:Nat) (x:Str) (ps:List Str) (sp:Sp):Prop where
 ex:∃ (f:Addr) (fd:FuncData),FnOk P w K mg base Oj k f fd ps sp/\mg x=some (.ref f)/\W.keepIn K (.ref f)=true/\Binds K fd ps []
section
variable {X:Cx} {k j:Nat} {x:Str} {ps:List Str} {sp:Sp} {p pos:Pos} {e:Expr} {es:List Expr} {t:TA}
abbrev aV (sp:Sp) (t:TA):TE:=fun σ H Q=>t σ H fun vs H1=>sp vs H1 Q E0
theorem MR (F:Fx X.prog X.w X.K X.mg X.base k x ps sp) (hr:Room j X.A) (hkj:k<=j) (hg:Gl X x) (ha:PA X (e::es) t) (hdb:(x == ("__debug__" : Str))=false:=by decide)
    (he:starEach (e::es) X.env=(false,eval e X.env)::starEach es X.env:=by rfl) (hpl:(backTo pos (starEach es X.env)).any (·.1)=false:=by rfl):PE X (.Call (.Name x p) (e::es) [] pos) (aV sp t):=by
  obtain ⟨f,fd,G,hm,hk,hb⟩:=F.ex;have q:=UK (p:=p) (pos:=pos) G (hr.mono hkj) hg hm hk hb .nil WR ha hdb he hpl;intro pins s σ H Q I h;refine q pins s σ H Q I ?_;show t σ H fun vs H1=>sp (vs++[]) H1 Q E0
  have e2:(fun (vs:List V) (H1:Hp)=>sp (vs++[]) H1 Q E0)=(fun vs H1=>sp vs H1 Q E0):=by
    funext vs H1;rw [List.append_nil]
  rw [e2];exact h
theorem QV (F:Fx X.prog X.w X.K X.mg X.base k x ps sp) (hr:Room j X.A) (hkj:k<=j) (hg:Gl X x) (hdb:(x == ("__debug__" : Str))=false:=by decide):PE X (.Call (.Name x p) [] [] pos) (aV sp TM):=by
 obtain ⟨f,fd,G,hm,hk,hb⟩:=F.ex;have q:=QX (p:=p) (pos:=pos) G (hr.mono hkj) hg hm hk hb .nil WR hdb;intro pins s σ H Q I h;exact q pins s σ H Q I h
end
section
variable {X:Cx}
def bQ:R2:=fun x y H Q=>∃ i j,x=.str i/\y=.str j/\i.length+j.length<=sizeLine/\Q (.str (i++j)) H
def JT (K:W.Frag):R2:=fun x y H Q=>(Sr fun i j=>.int (i+j)) x y H Q\/bQ x y H Q\/bP x y H Q\/WN K x y H Q
theorem UT:Bx X (binaryOp .Add) (JT X.K):=YY.or (LG.or (YX.or UQ))
theorem Si {K:W.Frag} {i j:Int} {H:Hp} {Q:VK} (q:Q (.int (i+j)) H):JT K (.int i) (.int j) H Q:=.inl ⟨i,j,rfl,rfl,q⟩
theorem Sg {K:W.Frag} {i j:Str} {H:Hp} {Q:VK} (h:i.length+j.length<=1000000) (q:Q (.str (i++j)) H):JT K (.str i) (.str j) H Q:=.inr (.inl ⟨i,j,rfl,rfl,Nat.le_trans h (by decide),q⟩)
theorem Sh {K:W.Frag} {a b:Addr} {xs ys:List V} {H:Hp} {Q:VK} (ha:H a=some (.lst xs)) (hb:H b=some (.lst ys)) (h:xs.length+ys.length<=1000000) (q:∀ p,H p=none->Q (.ref p) (upd H p (.lst (xs++ys)))):JT K (.ref a) (.ref b) H Q:=
 .inr (.inr (.inl ⟨a,b,xs,ys,rfl,rfl,ha,hb,Nat.le_trans h (by decide),q⟩))
theorem Ti {K:W.Frag} {p:Addr} {xs:List V} {i:Int} {v:V} {H:Hp} {Q:VK} (h:H p=some (.lst xs)) (e:DV xs i=some v) (q:Q v H):Xj K (.ref p) (.int i) H Q:=.inl ⟨p,xs,i,v,rfl,rfl,.inl (.inl h),e,q⟩
theorem Xi {K:W.Frag} {p:Addr} {xs:List V} {i:Int} {v:V} {H:Hp} {Q:VK} (h:CP K H p xs) (e:DV xs i=some v) (q:Q v H):Xj K (.ref p) (.int i) H Q:=.inl ⟨p,xs,i,v,rfl,rfl,h,e,q⟩
theorem Th {K:W.Frag} {z:Str} {i:Int} {c:Nat} {H:Hp} {Q:VK} (h:z.length<=1000000) (e:DV z.cps.toList i=some c) (q:Q (.str ⟨#[c]⟩) H):Xj K (.str z) (.int i) H Q:=.inr (.inr ⟨z,i,c,rfl,rfl,Nat.le_trans h (by decide),e,q⟩)
theorem Yw:Oh X (Xj X.K):=Yv
def QB (K:W.Frag):V->Option Int->Option Int->Hp->VK->Prop:=fun x lo hi H Q=>bG x lo hi H Q\/bH K x lo hi H Q\/bF K x lo hi H Q
theorem XU:Oo X (QB X.K):=XS.or (Ta.or XR)
theorem TX {K:W.Frag} {z:Str} {lo hi:Option Int} {H:Hp} {Q:VK} (h:z.length<=1000000) (q:Q (.str (Txt.slice z lo hi)) H):QB K (.str z) lo hi H Q:=.inl ⟨z,rfl,Nat.le_trans h (by decide),q⟩
theorem Pk {K:W.Frag} {a:Addr} {xs:List V} {lo hi:Option Int} {H:Hp} {Q:VK} (h:CP K H a xs) (q:∀ p,H p=none->Q (.ref p) (upd H p (.lst (EO xs lo hi)))):QB K (.ref a) lo hi H Q:=.inr (.inl ⟨a,xs,rfl,h,q⟩)
theorem TY {K:W.Frag} {a:Addr} {xs:List V} {lo hi:Option Int} {H:Hp} {Q:VK} (h:H a=some (.lst xs)) (q:∀ p,H p=none->Q (.ref p) (upd H p (.lst (EO xs lo hi)))):QB K (.ref a) lo hi H Q:=Pk (.inl (.inl h)) q
theorem Tc:Iy X QC:=set_list
def NQ (K:W.Frag):List V->Hp->VK->Prop:=fun xs H Q=>∃ x n,xs=[x]/\dU K x H n/\Q (.int n) H
theorem OR:BE X (.builtin "len") (NQ X.K):=Rq
theorem Nn {K:W.Frag} {z:Str} {H:Hp} {Q:VK} (h:z.length<=1000000) (q:Q (.int z.length) H):NQ K [.str z] H Q:=⟨_,_,rfl,⟨Nat.le_trans h (by decide),rfl⟩,q⟩
theorem Qo {K:W.Frag} {p:Addr} {xs:List V} {H:Hp} {Q:VK} (h:CP K H p xs) (q:Q (.int xs.length) H):NQ K [.ref p] H Q:=⟨_,_,rfl,.inl ⟨xs,h,rfl⟩,q⟩
theorem Ue {K:W.Frag} {p:Addr} {xs:List V} {H:Hp} {Q:VK} (h:H p=some (.lst xs)) (q:Q (.int xs.length) H):NQ K [.ref p] H Q:=Qo (.inl (.inl h)) q
end
theorem Cn {H:Hp} {p:Addr} (h:H p=none) (o:HO):Lw H (upd H p o):=fun b u q=>by rw [AQ (BX q h)];exact q
section
variable {X:Cx}
theorem fB (K:W.Frag) (h:X.K=K:=by rfl):Oh X (Xj K):=by subst h;exact Yw
theorem OP (K:W.Frag) (h:X.K=K:=by rfl):BE X (.builtin "len") (NQ K):=by subst h;exact OR
theorem Ql (K:W.Frag) (h:X.K=K:=by rfl):aJ X "str.join" (QD K):=by subst h;exact UZ
def MM (K:W.Frag):List V->Hp->VK->Prop:=fun xs H Q=>∃ p ys,xs=[.ref p]/\(CP K H p ys\/DY K H p ys)/\∀ l,H l=none->Q (.ref l) (upd H l (.lst ys))
theorem Lh (K:W.Frag) (h:X.K=K:=by rfl):BE X (.type "list") (MM K):=by subst h;exact Iq
def JR (K:W.Frag):List V->Hp->VK->Prop:=fun xs H Q=>∃ p ys,xs=[.ref p]/\((CP K H p ys/\∀ l,H l=none->Q (.ref l) (upd H l (.tup ys)))\/(DY K H p ys/\Q (.ref p) H))
theorem KL (K:W.Frag) (h:X.K=K:=by rfl):BE X (.type "tuple") (JR K):=by subst h;exact HA
end
noncomputable def tx (l:List Nat):Str:=⟨l.toArray⟩
theorem MA (l:List Nat):(tx l).cps.toList=l:=by simp [tx]
theorem Bo (l:List Nat):(tx l).length=l.length:=by simp [tx,Str.length]
theorem Kf (a b:List Nat):tx a++tx b=tx (a++b):=by
 show (⟨(tx a).cps++(tx b).cps⟩:Str)=_;simp [tx]
theorem XD {a b:List Nat} (h:tx a=tx b):a=b:=by
 have:=congrArg (fun z:Str=>z.cps.toList) h;simpa [tx] using this
def Le (l:List Nat) (lo hi:Option Int):List Nat:=(l.drop (HT.sIx l.length 0 lo)).take (HT.sIx l.length l.length hi - HT.sIx l.length 0 lo)
theorem QP (l:List Nat) (a k:Nat) (h:a+k<=l.length):((List.range k).map fun j=>a+j).filterMap (fun i=>l[i]?)=(l.drop a).take k:=by
  apply List.ext_getElem?;intro i
  by_cases hi:i < k
  · rw [List.getElem?_take_of_lt hi,List.getElem?_drop];have e:(List.map (fun j=>a+j) (List.range k)).filterMap (fun i=>l[i]?)=(List.range k).map fun j=>l[a+j]!:=by
      rw [List.filterMap_map];rw [show (fun i=>l[i]?)∘(fun j=>a+j)=fun j=>l[a+j]? from rfl];have:∀ (r:List Nat),(∀ j∈r,a+j < l.length)->r.filterMap (fun j=>l[a+j]?)=r.map fun j=>l[a+j]!:=by
        intro r
        induction r with
        | nil=>intro _;rfl
        | cons x r ih =>
          intro hx;have hxl:=hx x List.mem_cons_self;rw [List.filterMap_cons,List.getElem?_eq_getElem hxl,List.map_cons,ih fun j hj=>hx j (List.mem_cons_of_mem _ hj)];simp [hxl]
      exact this _ fun j hj=>by have:=List.mem_range.mp hj;omega
    rw [e,List.getElem?_map,List.getElem?_range hi];have hl:a+i < l.length:=by omega
    simp [hl]
  · have e1:(((List.range k).map fun j=>a+j).filterMap (fun i=>l[i]?)).length<=k:=Nat.le_trans (List.length_filterMap_le _ _) (by simp);rw [List.getElem?_eq_none (by omega),List.getElem?_eq_none (by rw [List.length_take];omega)]
theorem cl (i:Int) (n:Nat):max 0 (min (if i < 0 then i+(n:Int) else i) (n:Int))=(((if i < 0 then (i+(n:Int)).toNat else min i.toNat n):Nat):Int):=by
 by_cases h:i < 0
 ·simp only [h,if_true];omega
 ·simp only [h,if_false];omega
theorem Oz (l:List Nat) (lo hi:Option Int):Txt.slice (tx l) lo hi=tx (Le l lo hi):=by
 have hlen:(tx l).length=l.length:=Bo l;have key:Builtin.Str.strSliceIndices lo hi 1 l.length=(List.range (HT.sIx l.length l.length hi - HT.sIx l.length 0 lo)).map fun j=>HT.sIx l.length 0 lo+j:=by
  have key0:Builtin.Str.strSliceIndices lo hi 1 l.length=sliceRange ((HT.sIx l.length 0 lo:Nat):Int) ((HT.sIx l.length l.length hi:Nat):Int) 1:=by
   unfold Builtin.Str.strSliceIndices;rcases lo with _ | i<;>rcases hi with _ | j<;>simp only [show (1:Int) > 0 by decide,if_true,HT.sIx,cl,Int.natCast_zero]<;>rfl
  rw [key0];unfold sliceRange;simp only [show (1:Int) > 0 by decide,if_true];generalize HT.sIx l.length 0 lo=a;generalize HT.sIx l.length l.length hi=b;have JA:(if (a:Int) < (b:Int) then ((b:Int) - (a:Int)+1 - 1) / 1 else 0).toNat=b - a:=by
   split<;>omega
  rw [JA];apply List.map_congr_left;intro j _;omega
 have hle:HT.sIx l.length l.length hi<=l.length:=HT.sIx_le _ _ (Nat.le_refl _) _;have hlo:HT.sIx l.length 0 lo<=l.length:=HT.sIx_le _ _ (Nat.zero_le _) _;unfold Txt.slice;rw [hlen,key];unfold Le;generalize HT.sIx l.length 0 lo=a at *;generalize HT.sIx l.length l.length hi=b at *;have e2:(List.map (fun j=>a+j) (List.range (b - a))).filterMap (fun i=>(tx l).cps[i]?)=(l.drop a).take (b - a):=by
  have e3:(fun i:Nat=>(tx l).cps[i]?)=fun i=>l[i]?:=by funext i;simp [tx]
  rw [e3]
  by_cases hab:a<=b
  ·exact QP l a (b - a) (by omega)
  ·have:b - a=0:=by omega
   rw [this];simp
 split
 ·rename_i hc;simp only [List.length_map,List.length_range,Bool.and_eq_true,beq_iff_eq] at hc;have h0:a=0:=by omega
  have h1:b=l.length:=by omega
  subst h0 h1;simp
 ·rw [e2];rfl
def small (c:Nat):Prop:=97<=c/\c<=122
theorem eqV_str (a b:List Nat):eqV (.str (tx a)) (.str (tx b))=decide (a=b):=by
 unfold eqV
 by_cases h:a=b
 ·subst h;simp
 ·rw [decide_eq_false h];have:tx a≠tx b:=fun e=>h (XD e)
  simpa using this
section
variable {X:Cx}
def Xk (K:W.Frag):List V->Hp->VK->Prop:=fun xs H Q=>∃ x T t b,xs=[x,.ty T]/\TyOf K H x t/\W.kitOne K t (.type T)=some b/\Q (.bl b) H
theorem OS (K:W.Frag) (hK:X.K=K:=by rfl):BE X (.builtin "isinstance") (Xk K):=by
 subst hK;intro pins s σ H xs us Q I r h;obtain ⟨x,T,t,b,rfl,ty,e,q⟩:=h;obtain ⟨u,v,rfl,ru,rv⟩:=r.two;cases rv;exact Nr I ru ty e fun tk=>⟨.bl b,H,I.tok tk,rfl,q⟩
theorem AE.get':∀ {xs:List V} {us:List Value} {i:Nat} {u:Value},AE xs us->us[i]?=some u->∃ x,xs[i]?=some x/\RelV x u
 | _,_,_,_,.nil,e=>by simp at e
 | _,_,0,_,.cons r _,e=>by simp at e;subst e;exact ⟨_,rfl,r⟩
 | _,_,i+1,u,.cons _ t,e=>by
  obtain ⟨x,h1,h2⟩:=AE.get' (i:=i) (u:=u) t (by simpa using e);exact ⟨x,by simpa using h1,h2⟩
theorem Qd {h h':Heap} {o:Obj} (hk:∀ b x,b∉[h.objs.size]->(h.push o).get? b=some x->h'.get? b=some x):∀ b x,h.get? b=some x->h'.get? b=some x:=
 fun b x e=>hk b x (fun hm=>by rw [List.mem_singleton.mp hm] at e;exact Nat.lt_irrefl _ (Heap.lt_size e)) (Heap.get?_push_of_some _ e)
def eqVs:List V->List V->Bool
 | [],[]=>true
 | x::xs,y::ys=>eqV x y && eqVs xs ys
 | _,_=>false
def bE (K:W.Frag):V->Option Int->Option Int->Hp->VK->Prop:=fun x lo hi H Q=>∃ a xs,x=.ref a/\DY K H a xs/\(HT.sIx xs.length 0 lo=0/\HT.sIx xs.length xs.length hi=xs.length)/\Q (.ref a) H
theorem TZ:Oo X (bE X.K):=by
 intro pins s σ H x v vl vu lo hi sl Q I rx hs pl pu h;obtain ⟨a,xs,rfl,hx,hw,q⟩:=h;cases rx;obtain ⟨its,r,ht,hz⟩:=I.tuple hx;have hlen:its.toArray.size=xs.length:=by rw [List.size_toArray];exact r.length.symm
 refine ⟨"tuple", _,PyProof.Rows.slot_tuple_getitem.lookup,ht.typeIs,?_⟩
 obtain ⟨os,hos,hcs,hds⟩:=id hs
 have hTs:s.TypeIs (.ref sl) "slice" := ⟨os,hos,hcs⟩
 unfold getItem
 try with_reducible refine wpAny_holding ?_
 first | refine wpAny_bind (wpAny_pure ?_) | skip
 refine wpAny_bind (wpAny_sequenceKey ht.typeIs (by decide) ?_)
 refine wpAny_bind (wpAny_callSpecial?_slot (name:=Str.ofString "__getitem__") ht.typeIs PyProof.Rows.slot_tuple_getitem
  (wpAny_call_entry PyProof.Rows.slot_tuple_getitem ht.typeIs entry_tuple_getitem ?_ (args_tuple_getitem _ _)))
 show wpAny _ _ (Builtin.Tuple.tupleItemsOf (.ref a) >>= _) _ _ s;refine wpAny_bind (tupleItemsOf_ ht ?_);refine wpAny_bind (wpAny_typeOf hTs ?_);rw [if_pos (by decide)];refine wpAny_bind (HT.sliceApplied_gen hs pl pu ?_);have hyes:((((HT.sIx its.toArray.size 0 lo:Nat):Int) == 0 && (1:Int) == 1 && (HT.sIx its.toArray.size its.toArray.size hi - HT.sIx its.toArray.size 0 lo) == its.toArray.size)=true):=by
  rw [hlen,hw.1,hw.2];simp
 show wpAny _ _ (if (((HT.sIx its.toArray.size 0 lo:Nat):Int) == 0 && (1:Int) == 1 && (HT.sIx its.toArray.size its.toArray.size hi - HT.sIx its.toArray.size 0 lo) == its.toArray.size)=true then _ else _) _ _ s;rw [if_pos hyes];have fin:EP X pins σ Q (.ref a) s:=⟨.ref a,H,I,rfl,q⟩;refine wpAny_bind (m:=Builtin.Tuple.tupleIsExact (Value.ref a)) ?_;unfold Builtin.Tuple.tupleIsExact;refine wpAny_bind (wpAny_typeOf ht.typeIs (wpAny_pure ?_));rw [if_pos (by decide)];exact wpAny_bind (wpAny_rule (wpAny_pure ⟨_,rfl,wpAny_pure fin⟩))
end
end L2
namespace L2
open PySem PySem.Spec PyProof.Rows PySem.SeqAt
theorem Gu (l:Addr) (items:Array Value) (n:Nat) (dd:Option Addr) (sl:Array (Option Value)) (x:Value) (e:Value->Bool) (j:Nat) (hj:j < items.size) 
    (hit:e items[j]=true) (hno:∀ m (hm:m < items.size),m < j->e items[m]=false) :
    Meets (Builtin.«tuple.index» ⟨[.ref l,x],[]⟩)
      (fun A R s=>s.heap.get? l=some { cls:=.type "tuple", dict:=dd,data:=.seq items n,slots:=sl }/\(∀ y,y∈items->EqAt A.in1 s y x (e y))/\R (.ok (.ret (.int j s.toks))) { s with toks:=s.toks+1 }):=
  .of_wp fun prog w A R s h=>by
    obtain ⟨hp,g,d,tk,os⟩:=s;obtain ⟨hl,he,h⟩:=h;have f2:=AutoSeq1.sub_tuple_tuple
    wp_walk using wpAny_loadPart' hl
    let f:Nat->(Option Fin×Unit)->Sem (ForInStep (Option Fin×Unit)):=fun i __s =>
            match items[i]? with
            | some y=>do
              let __do_lift <- eqBool y x
              if __do_lift=true then do
                  let __do_lift <- retInt ↑i
                  pure (ForInStep.done (some __do_lift,()))
                else pure (ForInStep.yield (none,()))
            | x=>pure (ForInStep.yield (none,()))
    have key:wpAny (model prog w) A.in1 (forIn [:min items.size items.size] ((none,()):Option Fin×Unit) f) (fun a s' =>
      wpAny (model prog w) A.in1
        (match a.fst with
        | some r=>pure r
        | none=>do
          rule "tuple.index.not-found"
          raiseErrorWords "ValueError" "tuple.index(x): x not in tuple")
        (fun fin s'=>∃ v,fin=Fin.done (Flow.ret v)/\R (Except.ok (Flow.ret v)) s')
        (fun e s'=>R (Except.error e) s') s') (fun e s'=>R (Except.error e) s') { heap:=hp,gens:=g,drawn:=d,toks:=tk,os:=os }:=by
      rw [Std.Legacy.Range.forIn_eq_forIn_range'];simp only [Std.Legacy.Range.size,Nat.sub_zero,Nat.add_sub_cancel,Nat.div_one,Nat.min_self];refine wpAny_forIn_list _ (fun rest b s'=>b=(none,())/\s'=⟨hp,g,d,tk,os⟩/\∃ i,rest=List.range' i (items.size - i)/\i<=j) _ ?_ ?_ _ _ ⟨rfl,rfl,0,by simp,Nat.zero_le _⟩
      · rintro y rest b s' ⟨hb,rfl,i,hr,hi⟩;have hlt:i < items.size:=by omega
        obtain ⟨hy,hrest⟩:y=i/\rest=List.range' (i+1) (items.size - (i+1)):=by
          have e:items.size - i=(items.size - (i+1))+1:=by omega
          rw [e,List.range'_succ] at hr;injection hr with h1 h2
          exact ⟨h1,h2⟩
        subst hy;show wpAny _ _ (match items[y]? with
            | some z=>do
              let __do_lift <- eqBool z x
              if __do_lift=true then do
                  let __do_lift <- retInt ↑y
                  pure (ForInStep.done (some __do_lift,()))
                else pure (ForInStep.yield (none,()))
            | x=>pure (ForInStep.yield (none,()))) _ _ _
        rw [Array.getElem?_eq_getElem hlt];refine wpAny_bind (he _ (Array.getElem_mem hlt) prog w _ _ ?_)
        by_cases hyj:y=j
        · subst hyj;rw [hit]
          wp_walk
          exact ⟨_,rfl,h⟩
        · rw [hno y hlt (by omega)]
          wp_walk
          exact ⟨rfl,rfl,y+1,hrest,by omega⟩
      · rintro b s' ⟨hb,rfl,i,hr,hi⟩;have:(List.range' i (items.size - i)).length=0:=by rw [<- hr];rfl
        rw [List.length_range'] at this;omega
    refine cast ?_ key;congr 1;funext a s';obtain ⟨a1,a2⟩:=a;cases a1 with
    | none=>rfl
    | some r=>rfl
section
variable {X:Cx}
def eV (r:V->List V->Hp->VK->Prop) (to:TE) (t:TA):TE:=fun σ H Q=>to σ H fun x H1=>(∃ p xs,x=.ref p/\H1 p=some (.tup xs))/\t σ H1 fun xs H2=>r x xs H2 Q
theorem bZ {o e:Expr} {es:List Expr} {to:TE} {t:TA} {name:Str} {apos cpos:Pos} {id:String} {r:V->List V->Hp->VK->Prop} (pa:PlainAttrs "tuple") (slot:Slot "tuple" name id) (hty:typeOf (.builtin id)=pure (.type "method_descriptor")) (hm:Zv X id r) (ho:PE X o to) (ha:PA X (e::es) t)
    (hbase:attributeBase o name X.env (eval o X.env)=eval o X.env:=by rfl)
    (hfew:((backTo cpos (starEach (e::es) X.env)).all (fun x=>!x.1) && (backToKw cpos (keywordEach [] X.env)).all (fun x=>x.1.isSome)
      && decide ((e::es).length+([]:List Keyword).length+(if ([]:List Keyword).isEmpty then 0 else 1) < 30))=true:=by rfl)
    (hline:(apos.endLine == cpos.line)=true:=by rfl) (hs:starEach (e::es) X.env=(false,eval e X.env)::starEach es X.env:=by rfl) (hplain:(backTo cpos (starEach es X.env)).any (·.1)=false:=by rfl) :
    PE X (.Call (.Attribute o name apos) (e::es) [] cpos) (eV r to t):=by
  intro pins s σ H Q I h;refine wpAny_Call_method_late hbase hfew hline rfl (Al (ho pins s σ H _ I h) fun v s1 ⟨x,H1,I1,r1,ty,q1⟩=>?_);obtain ⟨p,xs,rfl,hp⟩:=ty;cases r1;obtain ⟨_,its,_,ob,h1,hc,hd,_⟩:=I1.hok p _ hp
  refine ⟨"tuple", id,pa,slot,hty,⟨ob,h1,hc⟩,fun a e=>by cases e;exact ⟨ob,h1,hd⟩,?_⟩
  have hA:=ha cpos pins s1 σ H1 _ I1 q1;rw [hs] at hA ⊢;refine Calls.callWith_builtin (by show (false || (backTo cpos (starEach es X.env)).any (·.1))=false;rw [hplain]<;>rfl) (Calls.evalArgs_plain ?_);exact Al hA fun us s2 ⟨vs,H2,I2,r2,q2⟩=>hm pins s2 σ H2 (.ref p) vs (.ref p) us Q I2 rfl r2 q2
def WO (K:W.Frag):R2:=fun x y H Q=>∃ a b ys,x=.ref a/\y=.ref b/\DY K H a []/\DY K H b ys/\Q (.ref b) H
theorem UR:Bx X (binaryOp .Add) (WO X.K):=by
  intro pins s σ H x y v u Q I rx ry h;obtain ⟨a,b,ys,rfl,rfl,ha,hb,q⟩:=h;cases rx;cases ry;obtain ⟨its,r1,p1,_⟩:=I.tuple ha;obtain ⟨its2,r2,p2,_⟩:=I.tuple hb;cases r1;obtain ⟨⟨cls,dd,data,sl⟩,ho,hc,n,hd⟩:=id p1;obtain ⟨⟨cls2,dd2,data2,sl2⟩,ho2,hc2,n2,hd2⟩:=id p2;simp only at hc hd hc2 hd2;subst hc hd hc2 hd2;exact concat_meets ⟨_,ho,rfl⟩ ⟨_,ho2,rfl⟩ noFill_tuple_add seq_tuple_add PySem.F.slot_tuple_add PySem.F.entry_tuple_add (PySem.F.args_tuple_add_2 _ _)
      (tuple_addW0 a b _ its2.toArray n n2 dd dd2 sl sl2 (by simp)) ⟨ho,ho2,⟨.ref b,H,I,rfl,q⟩⟩
def JS (K:W.Frag):R2:=fun x y H Q=>JT K x y H Q\/WO K x y H Q
theorem US (K:W.Frag) (h:X.K=K:=by rfl):Bx X (binaryOp .Add) (JS K):=by subst h;exact UT.or UR
theorem Sf {K:W.Frag} {i j:Int} {H:Hp} {Q:VK} (q:Q (.int (i+j)) H):JS K (.int i) (.int j) H Q:=.inl (Si q)
theorem Sd {K:W.Frag} {i j:Str} {H:Hp} {Q:VK} (h:i.length+j.length<=1000000) (q:Q (.str (i++j)) H):JS K (.str i) (.str j) H Q:=.inl (Sg h q)
theorem Se {K:W.Frag} {a b:Addr} {xs ys:List V} {H:Hp} {Q:VK} (ha:H a=some (.lst xs)) (hb:H b=some (.lst ys)) (h:xs.length+ys.length<=1000000) (q:∀ p,H p=none->Q (.ref p) (upd H p (.lst (xs++ys)))):JS K (.ref a) (.ref b) H Q:=.inl (Sh ha hb h q)
def NP (K:W.Frag):V->Option Int->Option Int->Hp->VK->Prop:=fun x lo hi H Q=>QB K x lo hi H Q\/bE K x lo hi H Q
theorem eY (K:W.Frag) (h:X.K=K:=by rfl):Oo X (NP K):=by subst h;exact XU.or TZ
theorem TU {K:W.Frag} {z:Str} {lo hi:Option Int} {H:Hp} {Q:VK} (h:z.length<=1000000) (q:Q (.str (Txt.slice z lo hi)) H):NP K (.str z) lo hi H Q:=.inl (TX h q)
theorem XQ {K:W.Frag} {a:Addr} {xs:List V} {lo hi:Option Int} {H:Hp} {Q:VK} (h:CP K H a xs) (q:∀ p,H p=none->Q (.ref p) (upd H p (.lst (EO xs lo hi)))):NP K (.ref a) lo hi H Q:=.inl (Pk h q)
theorem TV {K:W.Frag} {a:Addr} {xs:List V} {lo hi:Option Int} {H:Hp} {Q:VK} (h:H a=some (.lst xs)) (q:∀ p,H p=none->Q (.ref p) (upd H p (.lst (EO xs lo hi)))):NP K (.ref a) lo hi H Q:=.inl (TY h q)
def QA:V->List V->Hp->VK->Prop:=fun x vs H Q=>∃ l,x=.str (tx l)/\vs=[]/\(∀ c∈l,c < 128)/\l.length<=1000000/\Q (.str (tx (l.map up1))) H
theorem Qk:aJ X "str.upper" QA:=by
 intro pins s σ H x vs v us Q I rx rv h;obtain ⟨l,rfl,rfl,hA,hz,q⟩:=h;obtain ⟨t,rfl⟩:=rx;cases rv.zero;have e:Txt.upper (tx l)=tx (l.map up1):=by
  rw [upper_ascii (by rw [MA];exact hA)];simp [tx]
 refine SC.upper (by rw [e,Bo,List.length_map];exact decide_eq_false (by have:sizeLine=16777216:=sizeLine_eq;omega)) ⟨.str (tx (l.map up1)),H,I.tok _,⟨_,by rw [e]⟩,q⟩
end
end L2
namespace L2
open PySem PySem.Spec PyProof.Rows
section
variable {prog:Program} {w:World} {A:Around} {E:Value->Shared->Prop}
theorem Hj {it t:Addr} {items:Array Value} (hne:t≠it):∀ (n i:Nat) (s:Shared) (Q:List Value->Shared->Prop),s.heap.IsListIter it t i->s.heap.IsList t items->i+n<=items.size ->
    (∀ h',h'.IsListIter it t (i+n)->Heap.SameBut it s.heap h'->Q ((items.toList.drop i).take n) { s with heap:=h' })->wpAny (model prog w) A (draw (.ref it) n) Q E s
  | 0,i,s,Q,hit,_,_,hQ=>by
    show wpAny _ _ (pure []) Q E s;exact wpAny_pure (by simpa using hQ s.heap hit (Heap.SameBut.refl ..))
  | n+1,i,s,Q,hit,ht,hle,hQ=>by
    have hlt:i < items.size:=by omega
    show wpAny _ _ (pyNext (.ref it) >>= _) Q E s;refine wpAny_bind (wpAny_pyNext_list_item hit ht (x:=items[i]) (by simp [hlt]) fun h₁ hit₁ hs₁=>?_);refine wpAny_bind (wpAny_holding (Hj hne n (i+1) _ _ hit₁ (ht.extBut hs₁.extBut hne) (by omega) fun h₂ hit₂ hs₂=>wpAny_pure ?_));have hd:items.toList.drop i=items[i]::items.toList.drop (i+1):=by simp [List.drop_eq_getElem_cons,hlt]
    have:=hQ h₂ (by rw [show i+(n+1)=i+1+n by omega];exact hit₂) (hs₁.trans hs₂);rw [hd,List.take_succ_cons] at this;exact this
theorem EX {s:Shared} {t:Addr} {items:Array Value} {Q:List Value->Shared->Prop} (hh:A.handled=none) (ht:s.heap.IsList t items)
    (hQ:∀ h',Heap.ExtBut s.heap.objs.size s.heap h'->Q items.toList { s with heap:=h' }):wpAny (model prog w) A (unpackItems (.ref t) items.size none) Q E s:=by
  have hlt:t≠s.heap.objs.size:=by obtain ⟨o,ho,_⟩:=ht;exact Nat.ne_of_lt (Heap.lt_size ho)
  unfold unpackItems;refine wpAny_bind ?_
  · unfold notIterableAtAll;refine wpAny_bind (wpAny_specialOf ht.typeIs PySem.slot_list_iter.lookup ?_);refine wpAny_pure ?_;simp only [Bool.false_eq_true,if_false];refine wpAny_bind (wpAny_holding (wpAny_pyIter_list ht ?_));refine wpAny_bind (wpAny_holding (Hj hlt items.size 0 _ _ ⟨_,Heap.get?_push_size _ rfl,rfl,rfl⟩ (ht.push _) (by omega) fun h₁ hit₁ hs₁=>?_));have hall:List.take items.size (List.drop 0 items.toList)=items.toList:=by
      rw [List.drop_zero];exact List.take_of_length_le (by simp)
    rw [hall];rw [if_neg (by simp)];have ht₁:h₁.IsList t items:=(ht.push _).extBut hs₁.extBut hlt;refine wpAny_bind (wpAny_holding (wpAny_pyNext_list_end hh hit₁ ht₁ (by simp) fun h₂ he₂=>?_));simp only [Option.isSome_none,Bool.false_eq_true,if_false];refine wpAny_pure (hQ h₂ fun b o hb e=>he₂ b o hb (hs₁.extBut b o hb (Heap.get?_push_of_some _ e)))
theorem JE {s:Shared} {t:Addr} {items:Array Value} {targets:List (Bool×(Value->Sem Unit))} {Q:Unit->Shared->Prop} (hh:A.handled=none) (ht:s.heap.IsList t items)
    (hn:targets.length=items.size) (hstar:targets.findIdx? (·.1)=none)
    (h:∀ h',Heap.ExtBut s.heap.objs.size s.heap h'->wpAny (model prog w) A (assignInOrder (targets.map (·.2)) items.toList) Q E { s with heap:=h' }) :
    wpAny (model prog w) A (unpack (.ref t) targets) Q E s:=by
  unfold unpack;rw [hn,hstar];exact wpAny_bind (wpAny_holding (EX hh ht h))
end
section
variable {X:Cx}
abbrev ZD (n:Nat) (t:Lv):TG:=fun v σ H Q=>∃ a xs,v=.ref a/\H a=some (.lst xs)/\xs.length=n/\t xs σ H Q
theorem YE {es:List Expr} {k:Nat} {t:Lv} {n:Nat} {pos:Pos} (hc:X.calm=true) (h:aH X es t)
    (hn:(assignEach es X.env).length=n:=by rfl) (hst:(assignEach es X.env).findIdx? (·.1)=none:=by rfl):PG X (.Tuple es k pos) (ZD n t):=by
  intro pins s σ H v u Q I r hw;obtain ⟨a,xs,e1,hq,hl,hw⟩:=hw;subst e1;cases r;obtain ⟨its,rv,ht,hz⟩:=I.list (.inl (.inl hq));rw [assign_Tuple];refine wpAny_bind (wpAny_standAt (JE (I.ok.hd hc) ht.isList (by simp [hn,<- hl,rv.length]) hst fun h' hx=>?_));have I1:Inv X pins σ H { s with heap:=h' }:=I.kept (t':=s.toks) fun b o e=>hx b o (Nat.ne_of_lt (Heap.lt_size e)) e
  exact h pins _ σ H xs _ Q I1 (by simpa using rv) hw
theorem Uk {n:Nat} {js:List Nat} {u:Lv} (hu:Oi js u):Oq js (ZD n u):=by
 rintro x σ H Q ⟨a,xs,e,hq,hl,q⟩;exact ⟨a,xs,e,hq,hl,hu _ _ _ _ q⟩
end
end L2
namespace L2
open PySem PySem.Spec PyProof.Rows PySem.SeqAt
inductive D where
 | fl (v:V)
 | tup (ds:List D)
 | lst (ds:List D)
mutual
noncomputable def eqD:D->D->Bool
 | .fl a,.fl b=>eqV a b
 | .tup a,.tup b=>eqDs a b
 | .lst a,.lst b=>eqDs a b
 | _,_=>false
noncomputable def eqDs:List D->List D->Bool
 | [],[]=>true
 | x::xs,y::ys=>eqD x y && eqDs xs ys
 | _,_=>false
end
mutual
noncomputable def D.dep:D->Nat
 | .fl _=>0
 | .tup ds=>depL ds+1
 | .lst ds=>depL ds+1
noncomputable def depL:List D->Nat
 | []=>0
 | d::ds=>max d.dep (depL ds)
end
mutual
noncomputable def Is (H:Hp):V->D->Prop
 | x,.fl v=>x=v/\EL v=true
 | x,.tup ds=>∃ a xs,x=.ref a/\H a=some (.tup xs)/\IsL H xs ds
 | x,.lst ds=>∃ a xs,x=.ref a/\H a=some (.lst xs)/\IsL H xs ds
noncomputable def IsL (H:Hp):List V->List D->Prop
 | [],[]=>True
 | x::xs,d::ds=>Is H x d/\IsL H xs ds
 | _,_=>False
end
theorem IsL.inv {H:Hp} {x:V} {xs:List V} {es:List D} (h:IsL H (x::xs) es):∃ d ds,es=d::ds/\Is H x d/\IsL H xs ds:=by
 cases es with
 | nil=>unfold IsL at h;exact h.elim
 | cons d ds=>unfold IsL at h;exact ⟨d,ds,rfl,h.1,h.2⟩
theorem IsL.length {H:Hp}:∀ {xs:List V} {ds:List D},IsL H xs ds->xs.length=ds.length
 | [],[],_=>rfl
 | [],_::_,h=>by unfold IsL at h;exact h.elim
 | _::_,[],h=>by unfold IsL at h;exact h.elim
 | x::xs,d::ds,h=>by unfold IsL at h;rw [List.length_cons,List.length_cons,IsL.length h.2]
mutual
theorem Is.inj {H:Hp}:∀ {d e:D} {x:V},Is H x d->Is H x e->d=e
 | .fl v,e,x,h,k=>by
  unfold Is at h;obtain ⟨rfl,hf⟩:=h;cases e with
  | fl u=>unfold Is at k;rw [k.1]
  | tup es=>unfold Is at k;obtain ⟨a,xs,rfl,_⟩:=k;cases hf
  | lst es=>unfold Is at k;obtain ⟨a,xs,rfl,_⟩:=k;cases hf
 | .tup ds,e,x,h,k=>by
  unfold Is at h;obtain ⟨a,xs,rfl,h1,h2⟩:=h;cases e with
  | fl u=>unfold Is at k;obtain ⟨k1,k2⟩:=k;rw [<- k1] at k2;cases k2
  | tup es =>
   unfold Is at k;obtain ⟨b,ys,e,k1,k2⟩:=k;cases e;rw [h1] at k1;cases k1;rw [IsL.inj h2 k2]
  | lst es=>unfold Is at k;obtain ⟨b,ys,e,k1,k2⟩:=k;cases e;rw [h1] at k1;cases k1
 | .lst ds,e,x,h,k=>by
  unfold Is at h;obtain ⟨a,xs,rfl,h1,h2⟩:=h;cases e with
  | fl u=>unfold Is at k;obtain ⟨k1,k2⟩:=k;rw [<- k1] at k2;cases k2
  | lst es =>
   unfold Is at k;obtain ⟨b,ys,e,k1,k2⟩:=k;cases e;rw [h1] at k1;cases k1;rw [IsL.inj h2 k2]
  | tup es=>unfold Is at k;obtain ⟨b,ys,e,k1,k2⟩:=k;cases e;rw [h1] at k1;cases k1
theorem IsL.inj {H:Hp}:∀ {ds es:List D} {xs:List V},IsL H xs ds->IsL H xs es->ds=es
 | [],es,[],h,k=>by
  cases es with
  | nil=>rfl
  | cons e es=>unfold IsL at k;exact k.elim
 | [],_,_::_,h,_=>by unfold IsL at h;exact h.elim
 | _::_,_,[],h,_=>by unfold IsL at h;exact h.elim
 | d::ds,es,x::xs,h,k=>by
  unfold IsL at h;obtain ⟨e,es',rfl,k1,k2⟩:=k.inv;rw [Is.inj h.1 k1,IsL.inj h.2 k2]
end
theorem eqV_refl {v:V} (h:EL v=true):eqV v v=true:=by
 cases v<;>first | rfl | (simp [eqV];done) | cases h
mutual
theorem eqD_refl {H:Hp}:∀ {d:D} {x:V},Is H x d->eqD d d=true
 | .fl v,x,h=>by unfold Is at h;unfold eqD;exact eqV_refl h.2
 | .tup ds,x,h=>by unfold Is at h;obtain ⟨_,_,_,_,h2⟩:=h;unfold eqD;exact eqDs_refl h2
 | .lst ds,x,h=>by unfold Is at h;obtain ⟨_,_,_,_,h2⟩:=h;unfold eqD;exact eqDs_refl h2
theorem eqDs_refl {H:Hp}:∀ {ds:List D} {xs:List V},IsL H xs ds->eqDs ds ds=true
 | [],_,_=>by unfold eqDs;rfl
 | _::_,[],h=>by unfold IsL at h;exact h.elim
 | d::ds,x::xs,h=>by
  unfold IsL at h;unfold eqDs;rw [eqD_refl h.1,eqDs_refl h.2];rfl
end
section
variable {X:Cx} {pins:List (Addr×Obj)} {σ:St} {H:Hp} {s:Shared}
def eAt (ds es:List D) (i:Nat):Bool:=match ds[i]?,es[i]? with | some a,some b=>eqD a b | _,_=>true
theorem eAt_of {ds es:List D} {i:Nat} {a b:D} (h1:ds[i]?=some a) (h2:es[i]?=some b):eAt ds es i=eqD a b:=by unfold eAt;rw [h1,h2]
end
end L2
namespace L2
open PySem PySem.Spec PyProof.Rows
inductive T where
 | leaf (k:Str) (v:V)
 | op (s:Str) (m n:T)
 | many (k w:Str) (ts:List T)
 | lett (x:Str) (a b:T)
 | loop (i:Str) (n:T) (x:Str) (a b:T)
 | pick (n:T) (ts:List T)
noncomputable abbrev sD (x:Str):D:=.fl (.str x)
mutual
noncomputable def T.toD:T->D
 | .leaf k v=>.tup [sD k,.fl v]
 | .op s m n=>.tup [sD "op", sD s,m.toD,n.toD]
 | .many k w ts=>.tup [sD k,sD w,.tup (toDs ts)]
 | .lett x a b=>.tup [sD "let", sD x,a.toD,b.toD]
 | .loop i n x a b=>.tup [sD "loop", sD i,n.toD,sD x,a.toD,b.toD]
 | .pick n ts=>.tup [sD "pick", n.toD,.tup (toDs ts)]
noncomputable def toDs:List T->List D
 | []=>[]
 | t::ts=>t.toD::toDs ts
end
end L2
namespace L2
open PySem PySem.Spec PyProof.Rows PySem.SeqAt
section
end
end L2
namespace L2
open PySem PySem.Spec PyProof.Rows
section
variable {prog:Program} {w:World} {A:Around} {E:Value->Shared->Prop} {s:Shared}
theorem LK:typeLookup (.type "list_reverseiterator") "__len__" = pure none:=by rw [typeLookup_type,builtinLookup_eq_fast];kernel_rfl
theorem Qn:typeLookup (.type "list_reverseiterator") "__length_hint__" = pure (some (.builtin "list_reverseiterator.__length_hint__")):=by rw [typeLookup_type,builtinLookup_eq_fast];kernel_rfl
theorem Pu {r:Addr} {Q:Bool->Shared->Prop} (hT:s.TypeIs (.ref r) "list_reverseiterator") (h:Q false s):wpAny (model prog w) A (Builtin.List.listLengthHint (.ref r)) Q E s:=by
 unfold Builtin.List.listLengthHint;refine wpAny_bind (wpAny_specialOf hT LK ?_);refine wpAny_bind (wpAny_specialOf hT Qn ?_)
 generalize hid:("list_reverseiterator.__length_hint__" : String)=id0
 wp_delta
 rw [show splitId id0=some ("list_reverseiterator", "__length_hint__") from by subst hid;decide +kernel]
 subst hid
 refine wpAny_bind (wpAny_isInstance (T := "list_reverseiterator") (b:=true) hT (by rw [isSubtype_type];kernel_rfl) ?_)
 refine wpAny_ite_split (fun hab=>absurd hab (by decide)) (fun _=>?_);refine wpAny_ite_split (fun _=>?_) (fun hab=>absurd (by decide +kernel) hab);refine wpAny_ite_split (fun hab=>absurd hab (by decide +kernel)) (fun _=>?_);exact wpAny_pure h
theorem Py {p l:Addr} {items:Array Value} {Q:Value->Shared->Prop} (hh:A.handled=none) (hne:l≠p) (hit:s.heap.IsRevIter p l ((items.size:Int) - 1)) (hl:s.heap.IsList l items) (hn:items.size<=sizeLine)
    (hQ:∀ h' tk c',(∀ b o,b≠p->s.heap.get? b=some o->h'.get? b=some o)->h'.get? s.heap.objs.size=some { cls:=.type "list", dict:=none,data:=.seq items.reverse c',slots:=#[] }->Q (.ref s.heap.objs.size) { s with heap:=h',toks:=tk }) :
    wpAny (model prog w) A (call (.type "list") [.ref p]) Q E s:=by
  have hpl:p < s.heap.objs.size:=by obtain ⟨o,e,_⟩:=hit;exact Heap.lt_size e
  have hll:l < s.heap.objs.size:=by obtain ⟨o,e,_⟩:=hl;exact Heap.lt_size e
  refine callType_codes (Q₁:=fun obj s₁=>obj=.ref s.heap.objs.size/\s₁={ s with heap:=s.heap.push { cls:=.type "list", data:=.seq #[] } }) PySem.F.called_list (PySem.F.typeCall_list_1 _) PySem.F.entry_list_init
    (code_list_new _ ⟨rfl,rfl⟩) fun obj s₁ h₁=>?_
  obtain ⟨rfl,rfl⟩:=h₁
  have hS:(s.heap.push { cls:=.type "list", data:=.seq #[] }).get? s.heap.objs.size=some { cls:=.type "list", data:=.seq #[] }:=Heap.get?_push_size _ rfl
  generalize hSe:s.heap.objs.size=S at *;have hSp:S≠p:=Nat.ne_of_gt hpl;have hSl:S≠l:=Nat.ne_of_gt hll;refine ⟨⟨_,hS,rfl⟩,PySem.F.args_list_init_2 _ _,?_⟩;show wpAny _ _ (do let old <- Builtin.List.listItems (.ref S);Builtin.List.listUpdate (.ref S) (fun _=>#[]);letGo old.toList.reverse;Builtin.List.listExtendWith (.ref S) (.ref p) .none) _ _ _;refine wpAny_bind ?_;unfold Builtin.List.listItems;refine wpAny_bind (wpAny_seqItems hS rfl (wpAny_pure ?_));show wpAny _ _ (updateSeq S (fun _=>#[]) >>= fun _=>letGo (#[]:Array Value).toList.reverse >>= fun _=>Builtin.List.listExtendWith (.ref S) (.ref p) .none) _ _ _;refine wpAny_bind (wpAny_updateSeq hS rfl ?_);have hS₂:=Heap.get?_update_self (Obj.mapSeq (fun _=>(#[]:Array Value))) hS rfl
  have oth:∀ b o,b≠S->s.heap.get? b=some o->((s.heap.push { cls:=.type "list", data:=.seq #[] }).update S (Obj.mapSeq (fun _=>(#[]:Array Value)))).get? b=some o:=
    fun b o hb e=>(Heap.get?_update_other _ _ (Ne.symm hb)).trans (Heap.get?_push_of_some _ e)
  refine wpAny_bind (wpAny_letGo ?_)
  generalize (s.heap.push { cls:=.type "list", data:=.seq #[] }).update S (Obj.mapSeq (fun _=>(#[]:Array Value)))=h1 at hS₂ oth ⊢
  have hit1:h1.IsRevIter p l ((items.size:Int) - 1):=hit.at fun o e=>oth p o hSp.symm e
  have hl1:h1.IsList l items:=hl.at fun o e=>oth l o hSl.symm e
  unfold Builtin.List.listExtendWith
  refine wpAny_bind (wpAny_typeOf (T := "list_reverseiterator") (s:={ s with heap:=h1 }) hit1.typeIs ?_)
  have e1:Builtin.List.listSameRef (.ref S) (.ref p)=false:=by simp [Builtin.List.listSameRef,hSp]
  have e2:(Value.type "list_reverseiterator" == Value.type "list")=false:=by decide
  have e3:(Value.type "list_reverseiterator" == Value.type "tuple")=false:=by decide
  simp only [e1,e2,e3,Bool.or_false,Bool.false_eq_true,if_false];refine wpAny_bind (wpAny_pyIter_revIter (s:={ s with heap:=h1 }) hit1 ?_);refine wpAny_bind (wpAny_holding (Pu (s:={ s with heap:=h1 }) hit1.typeIs ?_));refine wpAny_ite_split (fun hab=>absurd hab (by decide +kernel)) (fun _=>?_);have W:=Walks.listRev (prog:=prog) (w:=w) (A:=A.in1.in1) hh p l hne items;refine wpAny_pure ⟨plainId_quiet PySem.F.plain_extend_loop _,codeAny_extend_loopS (A:=A.in1) W.toS hn S (by simp [hSp,hSl]) _ items.size 0 { s with heap:=h1 } #[] _ rfl (Nat.zero_le _) ⟨Nat.zero_le _,by simpa using hit1,hl1⟩ hS₂ (ItemsOf.nil _) fun s' acc' c' hm hS' hacc=>?_⟩;rw [Moved.eq_with hm];have er:acc'=items.reverse:=by
    apply Array.ext
    · rw [hacc.1,Array.size_reverse]
    · intro i h1 h2;have this:items[items.size - 1 - i]?=some acc'[i]:=hacc.2 i (acc'[i]) (Array.getElem?_eq_getElem h1);rw [Array.getElem_reverse];have h3:i < items.size:=by rw [<- hacc.1];exact h1
      rw [Array.getElem?_eq_getElem (by omega)] at this;exact (Option.some.inj this).symm
  subst er;refine ⟨rfl,hQ s'.heap s'.toks c' (fun b o hb e=>hm.heap b o (fun hmem=>?_) (oth b o ?_ e)) hS'⟩
  · rcases List.mem_cons.mp hmem with e' | hmem
    · exact absurd (Heap.lt_size e) (by rw [hSe,e'];exact Nat.lt_irrefl _)
    · exact hb (List.mem_singleton.mp hmem)
  · intro e';exact absurd (Heap.lt_size e) (by rw [hSe,e'];exact Nat.lt_irrefl _)
end
section
variable {X:Cx} {e:Expr} {te:TE} {p1 p2 pos1 pos2:Pos}
abbrev PL (K:W.Frag) (te:TE):TE:=fun σ H Q=>te σ H fun v H1=>∃ a xs,v=.ref a/\CP K H1 a xs/\∀ l,H1 l=none->Q (.ref l) (upd H1 l (.lst xs.reverse))
theorem Dp:∀ {xs:List V} {us:List Value},AE xs us->AE xs.reverse us.reverse
 | _,_,.nil=>.nil
 | _,_,.cons (a:=x) (b:=u) (l₁:=xs) (l₂:=us) r t=>by
  rw [List.reverse_cons,List.reverse_cons];exact AE.append (Dp t) (.cons r .nil)
theorem LD (hc:X.calm=true) (hgL:Gl X "list") (hmL:X.mg "list" = none) (hgR:Gl X "reversed") (hmR:X.mg "reversed" = none) (he:PE X e te)
    (hs1:starEach [.Call (.Name "reversed" p2) [e] [] pos2] X.env=(false,eval (.Call (.Name "reversed" p2) [e] [] pos2) X.env)::starEach [] X.env:=by rfl)
    (hpl1:(backTo pos1 (starEach [] X.env)).any (·.1)=false:=by rfl)
    (hs2:starEach [e] X.env=(false,eval e X.env)::starEach [] X.env:=by rfl)
    (hpl2:(backTo pos2 (starEach [] X.env)).any (·.1)=false:=by rfl) :
    PE X (.Call (.Name "list" p1) [.Call (.Name "reversed" p2) [e] [] pos2] [] pos1) (PL X.K te):=by
  intro pins s σ H Q I h;refine wpAny_Call_Name_kw (CY I hgL hmL PyProof.Rows.Boot.«list» ?_ (by decide) (by decide));refine PyProof.Rows.callWith_type1 ?_ hs1 hpl1;rw [hs1]
  show wpAny _ _ (spliced ((false,eval (.Call (.Name "reversed" p2) [e] [] pos2) X.env)::backTo pos1 (starEach [] X.env))) _ _ s
  refine Calls.spliced_cons ?_;refine wpAny_Call_Name_kw (CY I hgR hmR PyProof.Rows.Boot.«reversed» ?_ (by decide) (by decide));refine PyProof.Rows.callWith_type1 ?_ hs2 hpl2;rw [hs2];show wpAny _ _ (spliced ((false,eval e X.env)::backTo pos2 (starEach [] X.env))) _ _ s;refine Calls.spliced_cons (Al (he pins s σ H _ I h) fun v s1 ⟨x,H1,I1,r1,q1⟩=>?_);obtain ⟨a,xs,ex,hq,q⟩:=q1;subst ex;cases r1;obtain ⟨its,rv,pl,hz⟩:=I1.list hq;have hlen:=rv.length;refine Calls.spliced_nil ?_;have hil:=pl.isList;refine call_reversed_list hil ?_;refine Calls.spliced_nil ?_;have hal:a < s1.heap.objs.size:=by obtain ⟨o,e,_⟩:=hil;exact Heap.lt_size e
  refine Py (s:={ s1 with heap:=s1.heap.push (revObj a ((its.toArray.size:Int) - 1)) }) (I1.ok.hd hc) (Nat.ne_of_lt hal) ⟨_,Heap.get?_push_size _ rfl,rfl,rfl⟩ (hil.at fun o e=>Heap.get?_push_of_some _ e) (by simp only [List.size_toArray];omega) fun h' tk c' kp eh=>?_
  have kp':∀ b o,s1.heap.get? b=some o->h'.get? b=some o:=fun b o e=>kp b o (Nat.ne_of_lt (Heap.lt_size e)) (Heap.get?_push_of_some _ e)
  have hsz:(s1.heap.push (revObj a ((its.toArray.size:Int) - 1))).objs.size=s1.heap.objs.size+1:=size_push' _ _;refine ⟨.ref _,_,I1.laid (t':=tk) kp' (by rw [hsz];exact Nat.le_succ _) (show Ah X.prog X.w _ h' _ (.lst xs.reverse) from ⟨by rw [List.length_reverse];exact hz,its.reverse,c',Dp rv,by rw [eh];simp⟩),rfl,q _ (I1.hok.fresh (by rw [hsz];exact Nat.le_succ _))⟩
end
section
end
section
end
noncomputable def eL (hi:Int) (n:Nat):It:=⟨fun i _=>i < n,fun i H x H'=>H'=H/\x=.int (hi - i),fun i _=>n<=i⟩
theorem NB {P:Program} {w:World} {K:W.Frag} {tg:Expr} (it:Addr) (hi:Int) (n:Nat):Turn P w K tg (eL hi n) [it] it (fun i h=>IsRangeIter h it (hi+(i:Nat) * (-1)) ((n:Int) - (i:Nat)) (-1)) where
 mem:=by simp
 obj:=fun i h st b hb=>by
  have e:b=it:=by simpa using hb
  subst e;exact ⟨_,st,fun v z=>by
   have z':Data.fields _=Data.cell v:=z;cases z'⟩
 keep:=fun i h h' st k=>k it (by simp) _ st
 item:=by
  intro X hP hw hK hc i pins s σ H E I hf st hg;subst hP hw hK;obtain ⟨f0,f1,f2,f3,f4,f5⟩:=hf it (by simp);have W:=Walks.range (prog:=X.prog) (w:=X.w) (I.ok.hd hc) it hi (-1) n;refine W.item i s _ _ hg st fun v h' tk hv st' kk=>?_
  obtain ⟨t,rfl⟩:=hv;have I1:Inv X pins σ H { s with heap:=h',toks:=tk }:=I.turned (fun b o hb e=>kk b o (by simpa using hb) e) f0 f1 f3 f4 f5
  refine ⟨_,rfl,Js (s:={ s with heap:=h',toks:=tk }) (n := "range_iterator") st' rfl rfl (by decide) ⟨.int (hi - i),H,I1,⟨t,?_⟩,⟨rfl,rfl⟩,st',fun b hb=>(hf b hb).1⟩⟩
  congr 1;omega
 done:=by
  intro X hP hw hK hc i pins s σ H E I hf st hg;subst hP hw hK;obtain ⟨f0,f1,f2,f3,f4,f5⟩:=hf it (by simp);exact wpAny_pyNext_range_end (I.ok.hd hc) st (by have:n<=i:=hg;omega) fun h' eb=>⟨rfl,I.turned (t':=s.toks) (fun b o hb e=>eb b o hb e) f0 f1 f3 f4 f5⟩
 self:=fun _ _ _ _ _ st h=>wpAny_pyIter_rangeiter st h
theorem Cp (a b:Int):Builtin.Range.rangeSize a b (-1)=if a > b then a - b else 0:=by
 unfold Builtin.Range.rangeSize;rw [if_neg (by decide)];split
 ·rw [show -(-1:Int)=1 by decide,Int.ediv_one];omega
 ·rfl
theorem Kp {a b:Int} (ha:-(2 ^ 62)<=a) (ha':a < 2 ^ 62) (hb:-(2 ^ 62)<=b) (hb':b < 2 ^ 62):Builtin.Range.small a b (-1)=true:=by
 unfold Builtin.Range.small;rw [Cp];simp only [Builtin.Range.rangeFitsLong,Bool.and_eq_true,Bool.or_eq_true,decide_eq_true_eq,beq_iff_eq,show ¬ ((-1:Int) > 0) by decide,if_false];split<;>omega
section
variable {X:Cx} {tg:Expr}
abbrev cH (ta:TA):TI:=fun σ H R=>ta σ H fun vs H1=>∃ i j:Int,vs=[.int i,.int j,.int (-1)]/\(-1000000<=i/\i < 1000000/\-1000000<=j/\j < 1000000)/\R (eL i (i - j).toNat) H1
theorem NV {a b c:Expr} {ta:TA} {p pos:Pos} (hg:Gl X "range") (hm:X.mg "range" = none) (ha:PA X [a,b,c] ta) (hs:starEach [a,b,c] X.env=[(false,eval a X.env),(false,eval b X.env),(false,eval c X.env)]:=by rfl) (hs2:starEach [b,c] X.env=[(false,eval b X.env),(false,eval c X.env)]:=by rfl) :
    PI X tg (.Call (.Name "range" p) [a,b,c] [] pos) (cH ta):=by
  intro pins s σ H R I h;refine Call_ (CY I hg hm boot_range (PyProof.Rows.callWith_type1 (Al (ha pos pins s σ H _ I h) fun us s1 ⟨vs,H1,I1,r1,q1⟩=>?_) (by rw [hs,hs2]) (by rw [hs2];rfl)));obtain ⟨i,j,e,⟨q1,q2,q3,q4⟩,q⟩:=q1;subst e;cases r1 with
  | cons r rr =>
    cases rr with
    | cons r' rr =>
      cases rr with
      | cons r'' rr =>
        cases rr;obtain ⟨t,rfl⟩:=r;obtain ⟨t',rfl⟩:=r';obtain ⟨t'',rfl⟩:=r'';refine call_range_3 (by decide) ?_ (Or.inl (PyProof.noPylong_small (by omega)));refine wpAny_pyIter_range (IsRange.new ..) (Kp (by omega) (by omega) (by omega) (by omega)) ?_
        have I2:Inv X pins σ H1 { s1 with heap:=s1.heap.push { cls:=.type "range", data:=.fields #[.int i t,.int j t',.int (-1) t''] } }:=I1.kept (t':=s1.toks) fun b o e=>Heap.get?_push_of_some _ e
        refine ⟨(s1.heap.push { cls:=.type "range", data:=.fields #[.int i t,.int j t',.int (-1) t''] }).objs.size,[(s1.heap.push { cls:=.type "range", data:=.fields #[.int i t,.int j t',.int (-1) t''] }).objs.size],_,_,H1,rfl,
          I2.kept (t':=s1.toks) fun b o e=>Heap.get?_push_of_some _ e,NB _ i (i - j).toNat,?_,fun b hb=>?_,q⟩
        · have e1:i+((0:Nat):Int) * (-1)=i:=by simp
          have e2:(((i - j).toNat:Nat):Int) - ((0:Nat):Int)=Builtin.Range.rangeSize i j (-1):=by rw [Cp];split<;>omega
          show IsRangeIter _ _ (i+((0:Nat):Int) * (-1)) ((((i - j).toNat:Nat):Int) - ((0:Nat):Int)) (-1);rw [e1,e2];exact Heap.get?_push_size _ rfl
        · have e:b=(s1.heap.push { cls:=.type "range", data:=.fields #[.int i t,.int j t',.int (-1) t''] }).objs.size:=by simpa using hb
          subst e;exact I2.fpOk (Nat.le_refl _) (I2.hok.fresh (Nat.le_refl _))
end
section
variable {X:Cx}
def WL (K:W.Frag):List V->Hp->VK->Prop:=fun xs H Q=>∃ (p:Addr) (ns:List Int),xs=[.ref p]/\CP K H p (ns.map V.int)/\0 < ns.length/\∀ M,M∈ns->(∀ a,a∈ns->a<=M)->Q (.int M) H
theorem ON (K:W.Frag) (hK:X.K=K:=by rfl) (hc:X.calm=true:=by rfl):BE X (.builtin "max") (WL K):=by
 subst hK;intro pins s σ H xs us Q I r h;obtain ⟨p,ns,rfl,hp,hne,q⟩:=h;obtain ⟨u,rfl,rx⟩:=vals1 r;cases rx;obtain ⟨its,rv,pl,hz⟩:=I.list hp;have hl:=pl.isList;have hi:=LO rv;obtain ⟨xs,e⟩:=hi.allInts.items;have hns:ns=xs.toList.map (·.1):=by
  rw [<- hi.numsOf,<- nums_intItems,<- e]
 have hsz:0 < xs.size:=by
  have h3:=hne;rw [hns,List.length_map,Array.length_toList] at h3;exact h3
 rw [e] at hl;refine max_intList (I.ok.hd hc) hl hsz fun v h' tk hv hk=>?_
 obtain ⟨t,rfl⟩:=intItems_at hv;obtain ⟨h1,h2⟩:=argBest_gt (numAt xs) (xs.size - 1);refine ⟨.int _,H,I.kept hk,⟨t,rfl⟩,q _ ?_ fun a ha=>?_⟩
 ·rw [hns,numAt_eq];exact getD_mem (by rw [List.length_map,Array.length_toList];omega)
 ·rw [hns] at ha;obtain ⟨j,hj,rfl⟩:=mem_getD ha;rw [List.length_map,Array.length_toList] at hj;rw [<- numAt_eq];exact h2 j (by omega)
end
section
variable {κ:Type} [DecidableEq κ]
noncomputable def EW (kvs:List (κ×V)) (k:κ):Option V:=(kvs.find? fun kv=>decide (kv.1=k)).map (·.2)
noncomputable def Ex (kvs:List (κ×V)) (k:κ) (v:V):List (κ×V):=
 if (kvs.any fun kv=>decide (kv.1=k))=true then kvs.map (fun kv=>if kv.1=k then (kv.1,v) else kv) else kvs++[(k,v)]
theorem Cg {p:κ×V} {r:List (κ×V)} {k:κ} (e:p.1=k):EW (p::r) k=some p.2:=by simp [EW,List.find?_cons,e]
theorem Ci {p:κ×V} {r:List (κ×V)} {k:κ} (e:¬ p.1=k):EW (p::r) k=EW r k:=by simp [EW,List.find?_cons,e]
theorem JD (k:κ):∀ kvs:List (κ×V),(kvs.any fun kv=>decide (kv.1=k))=(EW kvs k).isSome
 | []=>rfl
 | p::r=>by
  rw [List.any_cons]
  by_cases e:p.1=k
  ·simp only [Cg e,decide_eq_true e,Bool.true_or,Option.isSome_some]
  ·rw [Ci e,decide_eq_false e,Bool.false_or];exact JD k r
theorem FJ (kvs:List (κ×V)) (k:κ) (v:V):(Ex kvs k v).length<=kvs.length+1:=by
 unfold Ex;split
 ·rw [List.length_map];omega
 ·rw [List.length_append,List.length_cons,List.length_nil];omega
theorem Gq.isSome_eq {o:Option V} {u:Option Value} (r:Gq o u):o.isSome=u.isSome:=by
 cases o with
 | none=>cases u with
  | none=>rfl
  | some _=>exact (show False from r).elim
 | some _=>cases u with
  | none=>exact (show False from r).elim
  | some _=>rfl
theorem KV.val {kvs:List (κ×V)} {vs:List (κ×Value)} (r:KV kvs vs) (k:κ):Gq (EW kvs k) (valueAt vs k):=by
 unfold KV at r
 induction r with
 | nil=>exact True.intro
 | @cons p q ps qs h t ih =>
  obtain ⟨h1,h2⟩:=h
  by_cases e:p.1=k
  ·have e':q.1=k:=h1.symm.trans e;have b:valueAt (q::qs) k=some q.2:=by simp [valueAt,List.find?_cons,e']
   rw [Cg e,b];exact h2
  ·have e':¬ q.1=k:=fun z=>e (h1.trans z)
   have b:valueAt (q::qs) k=valueAt qs k:=by simp [valueAt,List.find?_cons,e']
   rw [Ci e,b];exact ih
theorem KV.any {kvs:List (κ×V)} {vs:List (κ×Value)} (r:KV kvs vs) (k:κ):(kvs.any fun kv=>decide (kv.1=k))=vs.any fun kv=>decide (kv.1=k):=by
 unfold KV at r
 induction r with
 | nil=>rfl
 | cons h t ih=>rw [List.any_cons,List.any_cons,ih,h.1]
theorem KV.repl {kvs:List (κ×V)} {vs:List (κ×Value)} (r:KV kvs vs) (k:κ) {y:V} {u:Value} (ry:RelV y u) :
    KV (kvs.map fun kv=>if kv.1=k then (kv.1,y) else kv) (vs.map fun kv=>if kv.1=k then (kv.1,u) else kv):=by
  unfold KV at r ⊢
  induction r with
  | nil=>exact .nil
  | @cons p q ps qs h t ih =>
    rw [List.map_cons,List.map_cons];refine .cons ?_ ih;obtain ⟨h1,h2⟩:=h
    by_cases e:p.1=k
    · rw [if_pos e,if_pos (h1.symm.trans e)];exact ⟨h1,ry⟩
    · rw [if_neg e,if_neg (fun z=>e (h1.trans z))];exact ⟨h1,h2⟩
theorem KV.put {kvs:List (κ×V)} {vs:List (κ×Value)} (r:KV kvs vs) (k:κ) {y:V} {u:Value} (ry:RelV y u):KV (Ex kvs k y) (stored vs k u):=by
 unfold Ex stored;rw [r.any k]
 by_cases e:(vs.any fun kv=>decide (kv.1=k))=true
 ·rw [if_pos e,if_pos e];exact r.repl k ry
 ·rw [if_neg e,if_neg e];exact Paired.snoc r ⟨rfl,ry⟩
theorem KV.length {kvs:List (κ×V)} {vs:List (κ×Value)} (r:KV kvs vs):kvs.length=vs.length:=Paired.length r
end
theorem Jm {P:Program} {w:World} {k:Av} {u:Value} (r:RelV (kV k) u):(Aw P w).is k u=true:=by
 cases k with
 | inl i=>obtain ⟨t,e⟩:=(show ∃ t,u=Value.int i t from r);subst e;exact Ji P w i t
 | inr x=>obtain ⟨t,e⟩:=(show ∃ t,u=Value.str x t from r);subst e;exact Jh P w x t
theorem Hc {P:Program} {w:World}:∀ {ks:List Av} {us:List Value},AE (ks.map kV) us->ItemsAre (Aw P w) ks us
 | [],_,r=>by rw [List.map_nil] at r;cases r;exact .nil
 | k::ks,_,r=>by
  rw [List.map_cons] at r;cases r with
  | cons h t=>exact .cons (Jm h) (Hc t)
abbrev KT (H:Hp):List (List Av×V)->List (List Av×Addr×Value)->Prop:=Paired fun p q=>p.1=q.1/\H q.2.1=some (.tup (p.1.map kV))/\RelV p.2 q.2.2
theorem KT.val {H:Hp} {kvs:List (List Av×V)} {xs:List (List Av×Addr×Value)} (r:KT H kvs xs) (k:List Av):Gq (EW kvs k) ((atKey xs k).map (·.2)):=by
 induction r with
 | nil=>exact True.intro
 | @cons p q ps qs h t ih =>
  obtain ⟨h1,_,h2⟩:=h
  by_cases e:p.1=k
  ·have e':q.1=k:=h1.symm.trans e;have b:atKey (q::qs) k=some q.2:=by simp [atKey,List.find?_cons,e']
   rw [Cg e,b];exact h2
  ·have e':¬ q.1=k:=fun z=>e (h1.trans z)
   have b:atKey (q::qs) k=atKey qs k:=by simp [atKey,List.find?_cons,e']
   rw [Ci e,b];exact ih
theorem KT.repl {H:Hp} {kvs:List (List Av×V)} {xs:List (List Av×Addr×Value)} (r:KT H kvs xs) (k:List Av) {y:V} {u:Value} (ry:RelV y u) :
    KT H (kvs.map fun kv=>if kv.1=k then (kv.1,y) else kv) (xs.map (putAt k u)):=by
  induction r with
  | nil=>exact .nil
  | @cons p q ps qs h t ih =>
    rw [List.map_cons,List.map_cons];refine .cons ?_ ih;obtain ⟨h1,h2,h3⟩:=h;unfold putAt
    by_cases e:p.1=k
    · rw [if_pos e,if_pos (h1.symm.trans e)];exact ⟨h1,h2,ry⟩
    · rw [if_neg e,if_neg (fun z=>e (h1.trans z))];exact ⟨h1,h2,h3⟩
theorem KT.put {H:Hp} {kvs:List (List Av×V)} {xs:List (List Av×Addr×Value)} (r:KT H kvs xs) (k:List Av) {b:Addr} {y:V} {u:Value} (hb:H b=some (.tup (k.map kV))) (ry:RelV y u) :
    KT H (Ex kvs k y) (storedH xs k b u):=by
  have e:(kvs.any fun kv=>decide (kv.1=k))=(atKey xs k).isSome:=by
    rw [JD,(r.val k).isSome_eq,Option.isSome_map]
  unfold Ex storedH;rw [e]
  by_cases q:(atKey xs k).isSome=true
  · rw [if_pos q,if_pos q];exact r.repl k ry
  · rw [if_neg q,if_neg q];exact Paired.snoc r ⟨rfl,hb,ry⟩
theorem KT.keeps {H H':Hp} {kvs:List (List Av×V)} {xs:List (List Av×Addr×Value)} (r:KT H kvs xs) (ht:∀ b ys,H b=some (.tup ys)->H' b=some (.tup ys)):KT H' kvs xs:=
 Paired.mapP r fun _ _ z=>⟨z.1,ht _ _ z.2.1,z.2.2⟩
section
variable {P:Program} {w:World} {H:Hp} {h:Heap} {a:Addr}
theorem WK {u:HO} (ok:Dm P w H h) (e:Rd H a u):Ah P w H h a u:=e.ok ok
theorem Hm {kvs:List (Av×V)} (ok:Dm P w H h) (e:Rd H a (.dK kvs)):kvs.length<=sizeLine/\(a == sysModules)=false/\∃ vs,KV kvs vs/\h.DictOf (Aw P w) a vs:=
 show Ah P w H h a (.dK kvs) from WK ok e
theorem cj {kvs:List (Av×V)} (ok:Dm P w H h) (e:H a=some (.dK kvs)):kvs.length<=sizeLine/\(a == sysModules)=false/\∃ vs,KV kvs vs/\h.DictOf (Aw P w) a vs:=Hm ok (.inl e)
theorem GW {ks:List Av} (ok:Dm P w H h) (e:H a=some (.tup (ks.map kV))):(tupleKind (Aw P w)).is h ks a:=by
 obtain ⟨_,its,r,o,h1,h2,_,n,h3⟩:=(show Ah P w H h a (.tup (ks.map kV)) from ok a _ e);exact ⟨o,its.toArray,n,h1,h2,h3,by simpa using Hc r⟩
theorem KB {kvs:List (List Av×V)} (ok:Dm P w H h) (e:Rd H a (.dT kvs)):kvs.length<=sizeLine/\(a == sysModules)=false /\
    ∃ xs,KT H kvs xs/\h.DictOfH (tupleKind (Aw P w)) a xs:=by
  obtain ⟨z,y,xs,r,o,es,ep,h1,h2,h3,h4,h5⟩:=(show Ah P w H h a (.dT kvs) from WK ok e);refine ⟨z,y,xs,r,o,es,ep,h1,h2,h3,h4,fun x hx=>?_,h5⟩;have all:∀ {l:List (List Av×V)} {m:List (List Av×Addr×Value)},KT H l m->∀ x∈m,(tupleKind (Aw P w)).is h x.1 x.2.1:=by
    intro l m q
    induction q with
    | nil=>intro x hx;exact nomatch hx
    | @cons p q ps qs hq t ih =>
      intro x hx;rcases List.mem_cons.mp hx with e | hx
      · subst e;exact GW ok (by rw [<- hq.1];exact hq.2.1)
      · exact ih x hx
  exact all r x hx
theorem cg {kvs:List (List Av×V)} (ok:Dm P w H h) (e:H a=some (.dT kvs)):kvs.length<=sizeLine/\(a == sysModules)=false /\
    ∃ xs,KT H kvs xs/\h.DictOfH (tupleKind (Aw P w)) a xs:=KB ok (.inl e)
end
def HD (H:Hp) (a:Addr) (y:V) (r:Option V):Prop:=
 (∃ kvs k,Rd H a (.dK kvs)/\y=kV k/\r=EW kvs k)\/∃ kvs k b,Rd H a (.dT kvs)/\y=.ref b/\H b=some (.tup (k.map kV))/\r=EW kvs k
def So (H:Hp) (a:Addr) (y v:V) (H':Hp):Prop:=
 (∃ kvs k,H a=some (.dK kvs)/\y=kV k/\kvs.length < sizeLine/\H'=upd H a (.dK (Ex kvs k v))) \/
 ∃ kvs k b,H a=some (.dT kvs)/\y=.ref b/\H b=some (.tup (k.map kV))/\kvs.length < sizeLine/\H'=upd H a (.dT (Ex kvs k v))
theorem HD.k {H:Hp} {a:Addr} {kvs:List (Av×V)} {k:Av} (e:H a=some (.dK kvs)):HD H a (kV k) (EW kvs k):=.inl ⟨kvs,k,.inl e,rfl,rfl⟩
theorem So.k {H:Hp} {a:Addr} {kvs:List (Av×V)} {k:Av} {v:V} (e:H a=some (.dK kvs)) (hl:kvs.length < sizeLine):So H a (kV k) v (upd H a (.dK (Ex kvs k v))):=.inl ⟨kvs,k,e,rfl,hl,rfl⟩
section
variable {X:Cx} {pins:List (Addr×Obj)} {σ:St} {H:Hp} {s:Shared} {a:Addr} {y v:V} {u r:Value} {o:Option V} {A:Around} {E:Value->Shared->Prop}
theorem Inv.big (I:Inv X pins σ H s):sysModules < s.heap.objs.size:=by
 have h:mainGlobals < s.heap.objs.size:=(I.mod.glob.keeps I.bk).lt;exact Nat.lt_trans (by decide) h
theorem OF {Q:Value->Shared->Prop} (hu:A.units+1 < cLine) (I:Inv X pins σ H s) (g:HD H a y (some v)) (ry:RelV y u) (h:∀ w' s',Inv X pins σ H s'->RelV v w'->Q w' s') :
    wpAny (model X.prog X.w) A (getItem (.ref a) u) Q E s:=by
  rcases g with ⟨kvs,k,e,ey,l⟩ | ⟨kvs,k,b,e,ey,eb,l⟩
  · subst ey;obtain ⟨z,hd,vs,rel,dd⟩:=Hm I.hok e;obtain ⟨w',hw,rw'⟩:=Gq.some_of (v:=v) (o:=valueAt vs k) (by rw [l];exact rel.val k);exact wpAny_getItem_of (Jm ry) dd.mapOf hw (h w' _ (I.tok _) rw')
  · subst ey;cases (show u=Value.ref b from ry);obtain ⟨z,hd,xs,rel,dd⟩:=KB I.hok e;obtain ⟨w',hw,rw'⟩:=Gq.some_of (v:=v) (o:=(atKey xs k).map (·.2)) (by rw [l];exact rel.val k);obtain ⟨p,hp,hp2⟩:=Option.map_eq_some_iff.mp hw;refine wpAny_getItem_heap (tupleKind_room_in1 hu) (GW I.hok eb) dd hp ?_;rw [hp2];exact h w' _ (I.tok _) rw'
theorem fF {Q:Value->Shared->Prop} (hu:A.units+1 < cLine) (I:Inv X pins σ H s) (g:HD H a y o) (ry:RelV y u) (h:∀ s',Inv X pins σ H s'->Q (.bool o.isSome) s') :
    wpAny (model X.prog X.w) A (compareOp .In u (.ref a)) Q E s:=by
  rcases g with ⟨kvs,k,e,ey,l⟩ | ⟨kvs,k,b,e,ey,eb,l⟩
  · subst ey;obtain ⟨z,hd,vs,rel,dd⟩:=Hm I.hok e;refine wpAny_in_of (Jm ry) hd dd.mapOf ?_;rw [<- (rel.val k).isSome_eq,<- l];exact h _ (I.tok _)
  · subst ey;cases (show u=Value.ref b from ry);obtain ⟨z,hd,xs,rel,dd⟩:=KB I.hok e;refine wpAny_in_heap (tupleKind_room_in1 hu) (GW I.hok eb) hd dd ?_;have q:=(rel.val k).isSome_eq;rw [Option.isSome_map] at q;rw [<- q,<- l];exact h _ (I.tok _)
theorem VG {Q:Value->Shared->Prop} (hu:A.units+1 < cLine) (I:Inv X pins σ H s) (g:HD H a y o) (ry:RelV y u) (h:∀ s',Inv X pins σ H s'->Q (.bool (!o.isSome)) s') :
    wpAny (model X.prog X.w) A (compareOp .NotIn u (.ref a)) Q E s:=by
  rcases g with ⟨kvs,k,e,ey,l⟩ | ⟨kvs,k,b,e,ey,eb,l⟩
  · subst ey;obtain ⟨z,hd,vs,rel,dd⟩:=Hm I.hok e;refine wpAny_notIn_of (Jm ry) hd dd.mapOf ?_;rw [<- (rel.val k).isSome_eq,<- l];exact h _ (I.tok _)
  · subst ey;cases (show u=Value.ref b from ry);obtain ⟨z,hd,xs,rel,dd⟩:=KB I.hok e;refine wpAny_notIn_heap (tupleKind_room_in1 hu) (GW I.hok eb) hd dd ?_;have q:=(rel.val k).isSome_eq;rw [Option.isSome_map] at q;rw [<- q,<- l];exact h _ (I.tok _)
theorem Ml {h':Heap} {t':Nat} {ob:HO} (I:Inv X pins σ H s) (mu:aI (H a)) (hs:Heap.SameBut a s.heap h') (he:∃ q,h'.get? a=some q) (new:Ah X.prog X.w (upd H a ob) h' a ob) :
    Inv X pins σ (upd H a ob) { s with heap:=h',toks:=t' }:=
  I.write (x:=a) (e:=a) mu (.inl rfl) (fun b q hb z=>(hs.2 b hb).trans z) he new
theorem ZM {P:Program} {w:World} {H':Hp} {h':Heap} {kvs:List (Av×V)} {vs:List (Av×Value)} (z:kvs.length<=sizeLine) (hd:(a == sysModules)=false) (rel:KV kvs vs) (dd:h'.DictOf (Aw P w) a vs) :
    Ah P w H' h' a (.dK kvs):=⟨z,hd,vs,rel,dd⟩
theorem OE {H':Hp} {Q:Unit->Shared->Prop} (hu:A.units+1 < cLine) (I:Inv X pins σ H s) (g:So H a y v H') (ry:RelV y u) (rv:RelV v r) (h:∀ s',Inv X pins σ H' s'->Q () s') :
    wpAny (model X.prog X.w) A (setItem (.ref a) u r) Q E s:=by
  rcases g with ⟨kvs,k,e,ey,l,eH⟩ | ⟨kvs,k,b,e,ey,eb,l,eH⟩
  · subst ey eH;obtain ⟨z,hd,vs,rel,dd⟩:=cj I.hok e;have hz:vs.length<=sizeLine:=by rw [<- rel.length];exact z
    have hl:(Ex kvs k v).length<=sizeLine:=by have:=FJ kvs k v;omega
    refine wpAny_setItem_pairs (hsz:=hz) (Jm ry) dd fun h' dd' hs=>h _ ?_
    have he:∃ q,h'.get? a=some q:=let ⟨q,_,_,hq,_⟩:=dd';⟨q,hq⟩;exact Ml I (by rw [e];exact True.intro) hs he (ZM hl hd (rel.put k rv) dd')
  · subst ey eH;cases (show u=Value.ref b from ry);obtain ⟨z,hd,xs,rel,dd⟩:=cg I.hok e;have hz:xs.length<=sizeLine:=by rw [<- Paired.length rel];exact z
    have hl:(Ex kvs k v).length<=sizeLine:=by have:=FJ kvs k v;omega
    refine wpAny_setItem_heap (hsz:=hz) (tupleKind_room_in1 hu) (GW I.hok eb) dd fun h' dd' hs=>h _ ?_
    obtain ⟨q,es,ep,hq,h2,h3,h4,_,h5⟩:=dd';refine Ml I (by rw [e];exact True.intro) hs ⟨q,hq⟩ ⟨hl,hd,_,(rel.put k eb rv).keeps fun c ys ec=>?_,q,es,ep,hq,h2,h3,h4,h5⟩;rw [AQ (bw ec e (fun z=>nomatch z))];exact ec
end
section
variable {X:Cx} {pins:List (Addr×Obj)} {σ:St} {H:Hp} {s:Shared} {a:Addr} {kvs:List (Av×V)} {k:Av} {u:Value} {A:Around} {E:Value->Shared->Prop}
theorem cm {Q:Value->Shared->Prop} (I:Inv X pins σ H s) (e:Rd H a (.dK kvs)) (h:∀ t s',Inv X pins σ H s'->Q (.int kvs.length t) s'):wpAny (model X.prog X.w) A (call (.builtin "len") [.ref a]) Q E s:=by
 obtain ⟨z,hd,vs,rel,dd⟩:=Hm I.hok e;refine call_len_dict hd dd (by rw [<- rel.length];rw [sizeLine_eq] at z;omega) ?_;rw [<- rel.length];exact h _ _ (I.tok _)
end
theorem KC {X:Cx} {pins:List (Addr×Obj)} {σ:St} {H:Hp} {s:Shared} {a:Addr} {y:V} {o:Option V} (I:Inv X pins σ H s) (g:HD H a y o):s.TypeIs (.ref a) "dict" := by
 rcases g with ⟨kvs,k,e,_,_⟩ | ⟨kvs,k,b,e,_,_,_⟩
 ·obtain ⟨_,_,vs,_,dd⟩:=Hm I.hok e;exact dd.typeIs
 ·obtain ⟨_,_,xs,_,dd⟩:=KB I.hok e;exact dd.typeIs
section
end
theorem Ra {P:Program} {w:World} {H:Hp} (h:Heap) (hb:sysModules < h.objs.size):Ah P w H (h.push { cls:=.type "dict", data:=.dict #[] }) h.objs.size (.dK []):=
 ⟨Nat.zero_le _,beq_eq_false_iff_ne.mpr (Ne.symm (Nat.ne_of_lt hb)),[],.nil,Heap.DictOf.new h⟩
abbrev PM:TE:=fun _ H Q=>∀ p,H p=none->Q (.ref p) (upd H p (.dK []))
section
variable {X:Cx} {pos:Pos}
theorem Jc:PE X (.Dict [] [] pos) PM:=fun pins s σ H Q I h =>
 wpAny_Dict_empty ⟨.ref s.heap.objs.size,_,I.laid (a:=s.heap.objs.size) (o:=.dK []) (t':=s.toks) (fun _ _ q=>Heap.get?_push_of_some _ q) (Nat.le_refl _) (Ra s.heap I.big),rfl,h _ (I.hok.fresh (Nat.le_refl _))⟩
end
section
end
section
end
section
end
section
end
section
variable {X:Cx}
theorem OQ:BE X (.builtin "len") (fun xs H Q=>∃ a kvs,xs=[V.ref a]/\H a=some (.dK kvs)/\Q (.int kvs.length) H):=by
 intro pins s σ H xs us Q I r h;obtain ⟨a,kvs,rfl,ha,q⟩:=h;obtain ⟨u,rfl,ru⟩:=vals1 r;cases ru;exact cm I (.inl ha) fun t s' I'=>⟨.int kvs.length,H,I',⟨t,rfl⟩,q⟩
end
section
end
section
end
section
end
section
end
section
end
section
end
section
end
section
end
section
end
noncomputable def cs (z:Str):List Nat:=z.cps.toList
noncomputable def jn (sep:List Nat):List (List Nat)->List Nat
 | []=>[]
 | x::ys=>x++(ys.flatMap fun y=>sep++y)
theorem aM (sep:List Nat):∀ ys:List (List Nat),Txt.join (tx sep) (ys.map tx)=tx (jn sep ys):=by
 intro ys;have h:Txt.join (tx sep) (ys.map tx)=Str.join (tx sep) (ys.map tx):=by simpa using join_plain_closes (tx sep) (ys.map tx)
 rw [h];have:∀ (x:List Nat) (ys:List (List Nat)),Str.join (tx sep) ((x::ys).map tx)=tx (x++(ys.flatMap fun y=>sep++y)):=by
  intro x ys
  induction ys generalizing x with
  | nil=>simp [Str.join]
  | cons y ys ih =>
   show tx x++tx sep++Str.join (tx sep) ((y::ys).map tx)=_;rw [ih y,Kf,Kf];simp
 cases ys with
 | nil=>rfl
 | cons x ys=>exact this x ys
theorem XC (ys:List (List Nat)):((ys.map tx).map (·.length)).sum=(ys.map List.length).sum:=by
 rw [List.map_map];congr 1
end L2
namespace R
open PySem L2
inductive Dv where
 | non | bl (b:Bool) | int (i:Int) | str (x:List Nat) | tup (xs:List Dv) | lst (xs:List Dv) | dct (ks:List Av) (xs:List Dv) | ref (k:Nat) | scr (ns:List Int) | ty (n:String) | mtp (ls:List (List Nat)) | dti (kvs:List (List Int×Int))
 deriving Inhabited
structure G where
 Z:Addr->Prop
 μ:List Addr
noncomputable abbrev Fp:=Addr->Prop
def Disj (P Q:Fp):Prop:=∀ a,P a->Q a->False
def nop:Fp:=fun _=>False
def Lk (g:G) (H:Hp) (o:Nat) (a:Addr) (vs:List V):Prop:=H a=some (.lst vs)/\(o=0->g.Z a)/\(o≠0->¬ g.Z a)
def Scr (K:W.Frag) (H:Hp) (a:Addr) (ns:List Int):Prop:=(∃ o,H a=some (.frz o (.lst (ns.map V.int)))) \/
    ∃ (o:Obj) (its:Array Value) (n:Nat),K.lookup a=some o/\o.cls=.type "list" /\ o.dict=none/\o.data=.seq its n/\its.size<=sizeLine/\AE (ns.map V.int) its.toList
theorem Scr.sq {K:W.Frag} {H:Hp} {a:Addr} {ns:List Int} (h:Scr K H a ns):CP K H a (ns.map V.int):=h.elim (fun h=>.inl (.inr h)) .inr
def Mtp (K:W.Frag) (a:Addr) (ls:List (List Nat)):Prop:=∃ (o:Obj) (its:Array Value) (n:Nat),K.lookup a=some o/\o.cls=.type "tuple" /\ o.data=.seq its n/\its.size<=sizeLine/\AE (ls.map fun l=>V.str (tx l)) its.toList
def encD (kvs:List (List Int×Int)):List (List Av×V):=kvs.map fun p=>(p.1.map Sum.inl,V.int p.2)
mutual
noncomputable def Rep (K:W.Frag) (g:G) (H:Hp):Nat->Dv->V->Fp->Prop
 | _,.non,v,P=>v=.non/\∀ a,¬ P a
 | _,.bl b,v,P=>v=.bl b/\∀ a,¬ P a
 | _,.int i,v,P=>v=.int i/\∀ a,¬ P a
 | _,.str l,v,P=>v=.str (tx l)/\∀ a,¬ P a
 | o,.tup ds,v,P=>∃ a vs,v=.ref a/\H a=some (.tup vs)/\Reps K g H (o - 1) ds vs P
 | o,.lst ds,v,P=>∃ a vs P',v=.ref a/\Lk g H o a vs/\Reps K g H (o - 1) ds vs P'/\¬ P' a/\∀ b,P b↔(o≠0/\b=a)\/P' b
 | o,.dct ks ds,v,P=>∃ a vs,v=.ref a/\H a=some (.dK (ks.zip vs))/\(o=0->g.Z a)/\(o≠0->¬ g.Z a)/\(ks.length=ds.length/\∃ R,Reps K g H 0 ds vs R)/\∀ b,P b↔(o≠0/\b=a)
 | _,.ref k,v,P=>(∃ a,g.μ[k]?=some a/\v=.ref a)/\∀ a,¬ P a
 | _,.scr ns,v,P=>(∃ a,v=.ref a/\Scr K H a ns)/\∀ a,¬ P a
 | _,.ty n,v,P=>v=.ty n/\∀ a,¬ P a
 | _,.mtp ls,v,P=>(∃ a,v=.ref a/\Mtp K a ls)/\∀ a,¬ P a
 | o,.dti kvs,v,P=>∃ a,v=.ref a/\H a=some (.dT (encD kvs))/\(o=0->g.Z a)/\(o≠0->¬ g.Z a)/\∀ b,P b↔(o≠0/\b=a)
noncomputable def Reps (K:W.Frag) (g:G) (H:Hp):Nat->List Dv->List V->Fp->Prop
 | _,[],vs,P=>vs=[]/\∀ a,¬ P a
 | o,d::ds,vs,P=>∃ v r P1 P2,vs=v::r/\Rep K g H o d v P1/\Reps K g H o ds r P2/\Disj P1 P2/\∀ a,P a↔P1 a\/P2 a
end
def Zd (g:G) (H:Hp):Prop:=∀ a,g.Z a->H a≠none
structure Step (g:G) (P:Fp) (H:Hp) (g':G) (P':Fp) (H':Hp):Prop where
 keep:∀ b o,H b=some o->¬ P b->H' b=some o
 dom:∀ b,H' b=none->H b=none
 zm:∀ a,g.Z a->g'.Z a
 zn:∀ a,g'.Z a->g.Z a\/P a\/H a=none
 mu:∃ r,g'.μ=g.μ++r
 nw:∀ a,P' a->P a\/H a=none
 zd:Zd g H->Zd g' H'
theorem Step.refl {g:G} {P:Fp} {H:Hp}:Step g P H g P H:=⟨fun _ _ h _=>h,fun _ h=>h,fun _ h=>h,fun _ h=>.inl h,⟨[],by simp⟩,fun _ h=>.inl h,fun h=>h⟩
theorem Step.trans {g g1 g2:G} {P P1 P2:Fp} {H H1 H2:Hp} (a:Step g P H g1 P1 H1) (b:Step g1 P1 H1 g2 P2 H2):Step g P H g2 P2 H2:=by
 refine ⟨fun c o h n=>?_,fun c h=>a.dom c (b.dom c h),fun c h=>b.zm c (a.zm c h),fun c h=>?_,?_,fun c h=>?_,fun z=>b.zd (a.zd z)⟩
 ·refine b.keep c o (a.keep c o h n) fun z=>?_
  rcases a.nw c z with z | z
  ·exact n z
  ·rw [h] at z;cases z
 ·rcases b.zn c h with z | z | z
  ·exact a.zn c z
  ·exact (a.nw c z).elim (fun q=>.inr (.inl q)) fun q=>.inr (.inr q)
  ·exact .inr (.inr (a.dom c z))
 ·obtain ⟨r1,e1⟩:=a.mu;obtain ⟨r2,e2⟩:=b.mu;exact ⟨r1++r2,by rw [e2,e1,List.append_assoc]⟩
 ·rcases b.nw c h with z | z
  ·exact a.nw c z
  ·exact .inr (a.dom c z)
theorem Step.sub {g g':G} {P Q P' Q':Fp} {H H':Hp} (s:Step g P H g' P' H') (h1:∀ a,P a->Q a) (h2:∀ a,Q' a->P' a):Step g Q H g' Q' H':=
 ⟨fun b o h n=>s.keep b o h fun z=>n (h1 b z),s.dom,s.zm,fun a h=>(s.zn a h).elim .inl fun z=>.inr (z.elim (fun q=>.inl (h1 a q)) .inr),s.mu,fun a h=>(s.nw a (h2 a h)).elim (fun q=>.inl (h1 a q)) .inr,s.zd⟩
theorem Step.less {g g':G} {P P' Q':Fp} {H H':Hp} (s:Step g P H g' P' H') (h2:∀ a,Q' a->P' a):Step g P H g' Q' H':=s.sub (fun _ q=>q) h2
theorem Step.frame {g g':G} {P P' R:Fp} {H H':Hp} (s:Step g P H g' P' H'):Step g (fun a=>P a\/R a) H g' (fun a=>P' a\/R a) H':=
 ⟨fun b o h n=>s.keep b o h fun z=>n (.inl z),s.dom,s.zm,fun a h=>(s.zn a h).elim .inl fun z=>.inr (z.elim (fun q=>.inl (.inl q)) .inr),s.mu,fun a h=>h.elim (fun q=>(s.nw a q).elim (fun z=>.inl (.inl z)) .inr) fun q=>.inl (.inr q),s.zd⟩
theorem Step.same {g:G} {P:Fp} {H H':Hp} (s:Lw H H'):Step g P H g P H':=
 have dm:∀ b,H' b=none->H b=none:=fun b h=>by
  cases e:H b with
  | none=>rfl
  | some o=>rw [s b o e] at h;cases h
 ⟨fun b o h _=>s b o h,dm,fun _ h=>h,fun _ h=>.inl h,⟨[],by simp⟩,fun _ h=>.inl h,fun z a h q=>z a h (dm a q)⟩
def FpOk (g:G) (H:Hp) (P:Fp):Prop:=∀ a,P a->aI (H a)/\¬ g.Z a
theorem FpOk.or {g:G} {H:Hp} {P Q:Fp} (h:FpOk g H P) (k:FpOk g H Q):FpOk g H fun a=>P a\/Q a:=fun a q=>q.elim (h a) (k a)
theorem FpOk.nop {g:G} {H:Hp}:FpOk g H nop:=fun _ z=>z.elim
theorem FpOk.new {g:G} {H:Hp} {P:Fp} (h:FpOk g H P) {a:Addr} (n:H a=none):¬ P a:=fun z=>by have:=(h a z).1;rw [n] at this;exact this
theorem nop_iff {P:Fp} (h:∀ a,¬ P a):P=nop:=funext fun a=>propext ⟨fun z=>(h a z).elim,fun z=>z.elim⟩
section
variable {K:W.Frag} {g g':G} {H H':Hp}
theorem Step.out {P P' R:Fp} (s:Step g P H g' P' H') (ok:FpOk g H R) (n:Disj R P):Disj R P':=fun a q z=>(s.nw a z).elim (fun z=>n a q z) fun z=>ok.new z q
theorem Lk.held {o:Nat} {a:Addr} {vs:List V} {P P':Fp} (h:Lk g H o a vs) (hn:o≠0->¬ P a) (s:Step g P H g' P' H') (ok:FpOk g H P):Lk g' H' o a vs:=by
 have np:¬ P a:=by
  by_cases z:o=0
  ·exact fun q=>(ok a q).2 (h.2.1 z)
  ·exact hn z
 refine ⟨s.keep _ _ h.1 np,fun z=>s.zm _ (h.2.1 z),fun z q=>?_⟩;rcases s.zn _ q with q | q | q
 ·exact h.2.2 z q
 ·exact np q
 ·rw [h.1] at q;cases q
mutual
theorem Rep.none0:∀ {d:Dv} {v:V} {R:Fp},Rep K g H 0 d v R->∀ a,¬ R a
 | .non,v,R,h | .bl _,v,R,h | .int _,v,R,h | .str _,v,R,h | .ty _,v,R,h | .mtp _,v,R,h | .ref _,v,R,h | .scr _,v,R,h=>by unfold Rep at h;exact h.2
 | .dti n,v,R,h=>by
  unfold Rep at h;obtain ⟨b,e,h1,h2,h3,h4⟩:=h;exact fun a q=>((h4 a).mp q).1 rfl
 | .tup ds,v,R,h=>by
  unfold Rep at h;obtain ⟨_,vs,e,h1,h2⟩:=h;exact Reps.none0 h2
 | .lst ds,v,R,h=>by
  unfold Rep at h;obtain ⟨b,vs,R',e,h1,h2,h3,h5⟩:=h;exact fun a q=>((h5 a).mp q).elim (fun z=>z.1 rfl) fun z=>Reps.none0 h2 a z
 | .dct ks ds,v,R,h=>by
  unfold Rep at h;obtain ⟨b,vs,e,h1,h2,h3,h5,h4⟩:=h;exact fun a q=>((h4 a).mp q).1 rfl
theorem Reps.none0:∀ {ds:List Dv} {vs:List V} {R:Fp},Reps K g H 0 ds vs R->∀ a,¬ R a
 | [],vs,R,h=>by unfold Reps at h;exact h.2
 | d::ds,vs,R,h=>by
  unfold Reps at h;obtain ⟨v,r,P1,P2,e,h1,h2,h3,h4⟩:=h;exact fun a q=>((h4 a).mp q).elim (fun z=>Rep.none0 h1 a z) fun z=>Reps.none0 h2 a z
end
mutual
theorem Rep.held {P P':Fp} (s:Step g P H g' P' H') (ok:FpOk g H P):∀ {o:Nat} {d:Dv} {v:V} {R:Fp},Rep K g H o d v R->Disj R P->Rep K g' H' o d v R
 | _,.non,v,R,h,_ | _,.bl _,v,R,h,_ | _,.int _,v,R,h,_ | _,.str _,v,R,h,_ | _,.ty _,v,R,h,_ | _,.mtp _,v,R,h,_=>by unfold Rep at h ⊢;exact h
 | o,.dti n,v,R,h,d=>by
  unfold Rep at h ⊢;obtain ⟨a,e,h1,h2,h3,h4⟩:=h;have hn:¬ P a:=fun z=>by
   by_cases q:o=0
   ·exact (ok a z).2 (h2 q)
   ·exact d a ((h4 a).mpr ⟨q,rfl⟩) z
  refine ⟨a,e,s.keep _ _ h1 hn,fun q=>s.zm _ (h2 q),fun q z=>?_,h4⟩;rcases s.zn _ z with z | z | z
  ·exact h3 q z
  ·exact hn z
  ·rw [h1] at z;cases z
 | o,.tup ds,v,R,h,n=>by
  unfold Rep at h ⊢;obtain ⟨a,vs,e,h1,h2⟩:=h;exact ⟨a,vs,e,s.keep _ _ h1 fun z=>(by have:=(ok a z).1;rw [h1] at this;exact this),Reps.held s ok h2 n⟩
 | o,.lst ds,v,R,h,n=>by
  unfold Rep at h ⊢;obtain ⟨a,vs,R',e,h1,h2,h3,h5⟩:=h;exact ⟨a,vs,R',e,h1.held (fun z q=>n a ((h5 a).mpr (.inl ⟨z,rfl⟩)) q) s ok,Reps.held s ok h2 fun b q z=>n b ((h5 b).mpr (.inr q)) z,h3,h5⟩
 | o,.dct ks ds,v,R,h,d=>by
  unfold Rep at h ⊢;obtain ⟨a,vs,e,h1,h2,h3,⟨h5,R',h6⟩,h4⟩:=h;have hn:¬ P a:=fun z=>by
   by_cases q:o=0
   ·exact (ok a z).2 (h2 q)
   ·exact d a ((h4 a).mpr ⟨q,rfl⟩) z
  refine ⟨a,vs,e,s.keep _ _ h1 hn,fun q=>s.zm _ (h2 q),fun q z=>?_,⟨h5,R',Reps.held s ok h6 fun b q z=>(Reps.none0 h6 b q).elim⟩,h4⟩;rcases s.zn _ z with z | z | z
  ·exact h3 q z
  ·exact hn z
  ·rw [h1] at z;cases z
 | _,.ref k,v,R,h,_=>by
  unfold Rep at h ⊢;obtain ⟨⟨a,h1,h2⟩,h3⟩:=h;obtain ⟨r,e⟩:=s.mu;refine ⟨⟨a,?_,h2⟩,h3⟩;rw [e,List.getElem?_append_left (List.getElem?_eq_some_iff.mp h1).1];exact h1
 | _,.scr ns,v,R,h,_=>by
  unfold Rep at h ⊢;obtain ⟨⟨a,h1,h2⟩,h3⟩:=h;refine ⟨⟨a,h1,?_⟩,h3⟩;rcases h2 with ⟨o,h2⟩ | h2
  ·exact .inl ⟨o,s.keep _ _ h2 fun z=>by have:=(ok a z).1;rw [h2] at this;exact this⟩
  ·exact .inr h2
theorem Reps.held {P P':Fp} (s:Step g P H g' P' H') (ok:FpOk g H P):∀ {o:Nat} {ds:List Dv} {vs:List V} {R:Fp},Reps K g H o ds vs R->Disj R P->Reps K g' H' o ds vs R
 | _,[],vs,R,h,_=>by unfold Reps at h ⊢;exact h
 | o,d::ds,vs,R,h,n=>by
  unfold Reps at h ⊢;obtain ⟨v,r,P1,P2,e,h1,h2,h3,h4⟩:=h;exact ⟨v,r,P1,P2,e,Rep.held s ok h1 fun a q z=>n a ((h4 a).mpr (.inl q)) z,Reps.held s ok h2 fun a q z=>n a ((h4 a).mpr (.inr q)) z,h3,h4⟩
end
mutual
theorem Rep.fpOk:∀ {o:Nat} {d:Dv} {v:V} {R:Fp},Rep K g H o d v R->FpOk g H R
 | _,.non,v,R,h,a,q | _,.bl _,v,R,h,a,q | _,.int _,v,R,h,a,q | _,.str _,v,R,h,a,q | _,.ty _,v,R,h,a,q | _,.mtp _,v,R,h,a,q | _,.ref _,v,R,h,a,q | _,.scr _,v,R,h,a,q=>by unfold Rep at h;exact (h.2 a q).elim
 | o,.dti n,v,R,h,a,q=>by
  unfold Rep at h;obtain ⟨b,e,h1,h2,h3,h4⟩:=h;obtain ⟨ho,rfl⟩:=(h4 a).mp q;exact ⟨by rw [h1];trivial,h3 ho⟩
 | o,.tup ds,v,R,h,a,q=>by
  unfold Rep at h;obtain ⟨_,vs,e,h1,h2⟩:=h;exact Reps.fpOk h2 a q
 | o,.lst ds,v,R,h,a,q=>by
  unfold Rep at h;obtain ⟨b,vs,R',e,h1,h2,h3,h5⟩:=h;rcases (h5 a).mp q with ⟨z,rfl⟩ | z
  ·exact ⟨by rw [h1.1];trivial,h1.2.2 z⟩
  ·exact Reps.fpOk h2 a z
 | o,.dct ks ds,v,R,h,a,q=>by
  unfold Rep at h;obtain ⟨b,vs,e,h1,h2,h3,h5,h4⟩:=h;obtain ⟨ho,rfl⟩:=(h4 a).mp q;exact ⟨by rw [h1];trivial,h3 ho⟩
theorem Reps.fpOk:∀ {o:Nat} {ds:List Dv} {vs:List V} {R:Fp},Reps K g H o ds vs R->FpOk g H R
 | _,[],vs,R,h,a,q=>by unfold Reps at h;exact (h.2 a q).elim
 | o,d::ds,vs,R,h,a,q=>by
  unfold Reps at h;obtain ⟨v,r,P1,P2,e,h1,h2,h3,h4⟩:=h;rcases (h4 a).mp q with z | z
  ·exact Rep.fpOk h1 a z
  ·exact Reps.fpOk h2 a z
end
theorem Rep.iff {o:Nat} {d:Dv} {v:V} {P Q:Fp} (h:Rep K g H o d v P) (e:∀ a,Q a↔P a):Rep K g H o d v Q:=by
 have:Q=P:=funext fun a=>propext (e a)
 rw [this];exact h
theorem Reps.iff {o:Nat} {d:List Dv} {v:List V} {P Q:Fp} (h:Reps K g H o d v P) (e:∀ a,Q a↔P a):Reps K g H o d v Q:=by
 have:Q=P:=funext fun a=>propext (e a)
 rw [this];exact h
theorem Rep.z {d:Dv} {v:V} {R:Fp} (h:Rep K g H 0 d v R):Rep K g H 0 d v nop:=by rw [<- nop_iff h.none0];exact h
theorem Reps.z {d:List Dv} {v:List V} {R:Fp} (h:Reps K g H 0 d v R):Reps K g H 0 d v nop:=by rw [<- nop_iff h.none0];exact h
def G.add (g:G) (P:Fp):G:={ g with Z:=fun a=>g.Z a\/P a }
mutual
theorem Rep.freeze {P:Fp}:∀ {o:Nat} {d:Dv} {v:V} {R:Fp},Rep K g H o d v R->(∀ a,R a->P a)->Rep K (g.add P) H 0 d v nop
 | _,.non,v,R,h,_ | _,.bl _,v,R,h,_ | _,.int _,v,R,h,_ | _,.str _,v,R,h,_ | _,.ty _,v,R,h,_ | _,.mtp _,v,R,h,_ | _,.ref _,v,R,h,_ | _,.scr _,v,R,h,_=>by unfold Rep at h ⊢;exact ⟨h.1,fun _ z=>z⟩
 | o,.dti n,v,R,h,s=>by
  unfold Rep at h ⊢;obtain ⟨a,e,h1,h2,h3,h4⟩:=h;refine ⟨a,e,h1,fun _=>?_,fun z=>(z rfl).elim,fun b=>⟨fun z=>z.elim,fun z=>(z.1 rfl).elim⟩⟩
  by_cases q:o=0
  ·exact .inl (h2 q)
  ·exact .inr (s a ((h4 a).mpr ⟨q,rfl⟩))
 | o,.tup ds,v,R,h,s=>by
  unfold Rep at h ⊢;obtain ⟨a,vs,e,h1,h2⟩:=h;exact ⟨a,vs,e,h1,Reps.freeze h2 s⟩
 | o,.lst ds,v,R,h,s=>by
  unfold Rep at h ⊢;obtain ⟨a,vs,R',e,h1,h2,h3,h5⟩:=h;refine ⟨a,vs,nop,e,⟨h1.1,fun _=>?_,fun z=>(z rfl).elim⟩,Reps.freeze h2 (fun b q=>s b ((h5 b).mpr (.inr q))),fun z=>z,fun b=>⟨fun z=>z.elim,fun z=>z.elim (fun q=>(q.1 rfl).elim) id⟩⟩
  by_cases q:o=0
  ·exact .inl (h1.2.1 q)
  ·exact .inr (s a ((h5 a).mpr (.inl ⟨q,rfl⟩)))
 | o,.dct ks ds,v,R,h,s=>by
  unfold Rep at h ⊢;obtain ⟨a,vs,e,h1,h2,h3,⟨h5,R',h6⟩,h4⟩:=h;refine ⟨a,vs,e,h1,fun _=>?_,fun z=>(z rfl).elim,⟨h5,nop,Reps.freeze h6 fun b q=>(Reps.none0 h6 b q).elim⟩,fun b=>⟨fun z=>z.elim,fun z=>(z.1 rfl).elim⟩⟩
  by_cases q:o=0
  ·exact .inl (h2 q)
  ·exact .inr (s a ((h4 a).mpr ⟨q,rfl⟩))
theorem Reps.freeze {P:Fp}:∀ {o:Nat} {ds:List Dv} {vs:List V} {R:Fp},Reps K g H o ds vs R->(∀ a,R a->P a)->Reps K (g.add P) H 0 ds vs nop
 | _,[],vs,R,h,_=>by unfold Reps at h ⊢;exact ⟨h.1,fun _ z=>z⟩
 | o,d::ds,vs,R,h,s=>by
  unfold Reps at h ⊢;obtain ⟨v,r,P1,P2,e,h1,h2,h3,h4⟩:=h;exact ⟨v,r,nop,nop,e,Rep.freeze h1 (fun a q=>s a ((h4 a).mpr (.inl q))),Reps.freeze h2 (fun a q=>s a ((h4 a).mpr (.inr q))),fun _ z=>z.elim,fun a=>⟨fun z=>z.elim,fun z=>z.elim id id⟩⟩
end
theorem Step.freeze {P:Fp} (ok:FpOk g H P):Step g P H (g.add P) nop H:=
 ⟨fun _ _ h _=>h,fun _ h=>h,fun _ h=>.inl h,fun a h=>h.elim .inl fun q=>.inr (.inl q),⟨[],by show g.μ=_;simp⟩,fun _ h=>h.elim,fun z a h q=>h.elim (fun h=>z a h q) fun h=>by have:=(ok a h).1;rw [q] at this;exact this⟩
theorem Reps.nil {o:Nat}:Reps K g H o [] [] nop:=by unfold Reps;exact ⟨rfl,fun _ z=>z⟩
theorem Reps.cons {o:Nat} {d:Dv} {v:V} {ds:List Dv} {vs:List V} {P1 P2:Fp} (h1:Rep K g H o d v P1) (h2:Reps K g H o ds vs P2) (n:Disj P1 P2):Reps K g H o (d::ds) (v::vs) fun a=>P1 a\/P2 a:=by
 unfold Reps;exact ⟨v,vs,P1,P2,rfl,h1,h2,n,fun _=>Iff.rfl⟩
theorem Reps.len:∀ {o:Nat} {ds:List Dv} {vs:List V} {R:Fp},Reps K g H o ds vs R->ds.length=vs.length
 | _,[],vs,R,h=>by unfold Reps at h;rw [h.1];rfl
 | _,d::ds,vs,R,h=>by
  unfold Reps at h;obtain ⟨v,r,P1,P2,rfl,h1,h2,_⟩:=h;simp [h2.len]
theorem Reps.get:∀ {o:Nat} {ds:List Dv} {vs:List V} {R:Fp} {i:Nat} {d:Dv},Reps K g H o ds vs R->ds[i]?=some d->∃ v P,vs[i]?=some v/\Rep K g H o d v P/\∀ a,P a->R a
 | _,[],_,_,_,_,_,e=>by simp at e
 | _,d::ds,vs,R,i,d',h,e=>by
  unfold Reps at h;obtain ⟨v,r,P1,P2,rfl,h1,h2,_,h4⟩:=h;cases i with
  | zero=>simp at e;subst e;exact ⟨v,P1,rfl,h1,fun a q=>(h4 a).mpr (.inl q)⟩
  | succ i =>
   obtain ⟨v',P,e',h',s⟩:=h2.get (i:=i) (by simpa using e);exact ⟨v',P,by simpa using e',h',fun a q=>(h4 a).mpr (.inr (s a q))⟩
theorem Reps.app:∀ {o:Nat} {ds es:List Dv} {vs us:List V} {P Q:Fp},Reps K g H o ds vs P->Reps K g H o es us Q->Disj P Q->Reps K g H o (ds++es) (vs++us) fun a=>P a\/Q a
 | _,[],es,vs,us,P,Q,h,k,_=>by
  unfold Reps at h;obtain ⟨rfl,n⟩:=h;exact k.iff fun a=>⟨fun z=>z.elim (fun q=>(n a q).elim) id,.inr⟩
 | _,d::ds,es,vs,us,P,Q,h,k,n=>by
  unfold Reps at h;obtain ⟨v,r,P1,P2,rfl,h1,h2,h3,h4⟩:=h;have t:=Reps.app h2 k fun a q z=>n a ((h4 a).mpr (.inr q)) z
  refine (Reps.cons h1 t fun a q z=>z.elim (fun z=>h3 a q z) fun z=>n a ((h4 a).mpr (.inl q)) z).iff fun a=>?_
  rw [h4 a,or_assoc]
end
noncomputable abbrev M:=List Dv
noncomputable abbrev Gm:=List (Option Nat)
noncomputable def M.at (m:M) (i:Nat):Dv:=m.getD i .non
structure REnv (K:W.Frag) (g:G) (H:Hp) (Γ:Gm) (ρ:List Dv) (σ:St) (F:Nat->Fp):Prop where
 l1:ρ.length=Γ.length
 l2:σ.length=Γ.length
 rep:∀ i o,Γ[i]?=some (some o)->∃ d v,ρ[i]?=some d/\σ[i]?=some (some v)/\Rep K g H o d v (F i)
 out:∀ i,(∀ o,Γ[i]?≠some (some o))->∀ a,¬ F i a
 dj:∀ i j,i≠j->Disj (F i) (F j)
def Rel (K:W.Frag) (g:G) (H:Hp) (Γ:Gm) (m:M) (σ:St) (P:Fp):Prop:=Zd g H/\∃ F,REnv K g H Γ m σ F/\∀ a,P a↔∃ i,F i a
theorem DE {α:Type} {l:List α} {i j:Nat} {x y:α} (h:(l.set i x)[j]?=some y):(i=j/\y=x)\/(i≠j/\l[j]?=some y):=by
 by_cases e:i=j
 ·subst e;refine .inl ⟨rfl,?_⟩;rw [List.getElem?_set] at h;simp only [if_true] at h;split at h
  ·exact (Option.some.inj h).symm
  ·cases h
 ·rw [List.getElem?_set_ne e] at h;exact .inr ⟨e,h⟩
theorem Hz {m:M} {i:Nat} {d:Dv} (h:m[i]?=some d):m.at i=d:=by unfold M.at;rw [List.getD_eq_getElem?_getD,h];rfl
section
variable {K:W.Frag} {g g':G} {H H':Hp} {Γ:Gm} {m:M} {σ:St} {P:Fp}
theorem Rel.zd (h:Rel K g H Γ m σ P):Zd g H:=h.1
theorem Rel.len (h:Rel K g H Γ m σ P):m.length=Γ.length/\σ.length=Γ.length:=let ⟨_,_,h1,_⟩:=h;⟨h1.l1,h1.l2⟩
theorem Rel.fpOk (h:Rel K g H Γ m σ P):FpOk g H P:=by
 obtain ⟨_,F,h1,h4⟩:=h;intro a q;obtain ⟨i,z⟩:=(h4 a).mp q
 by_cases e:∃ o,Γ[i]?=some (some o)
 ·obtain ⟨o,e⟩:=e;obtain ⟨d,v,_,_,r⟩:=h1.rep i o e;exact r.fpOk a z
 ·exact (h1.out i (fun o z=>e ⟨o,z⟩) a z).elim
theorem Rel.held {P' R:Fp} (s:Step g P H g' P' H') (ok:FpOk g H P) (h:Rel K g H Γ m σ R) (n:Disj R P):Rel K g' H' Γ m σ R:=by
 obtain ⟨zd,F,h1,h4⟩:=h;refine ⟨s.zd zd,F,⟨h1.l1,h1.l2,fun i o e=>?_,h1.out,h1.dj⟩,h4⟩;obtain ⟨d,v,e1,e2,r⟩:=h1.rep i o e;exact ⟨d,v,e1,e2,r.held s ok fun a q z=>n a ((h4 a).mpr ⟨i,q⟩) z⟩
theorem Rel.same (h:Rel K g H Γ m σ P) (s:Lw H H'):Rel K g H' Γ m σ P:=h.held (Step.same (P:=nop) s) FpOk.nop fun _ _ z=>z
theorem Rel.see {i o:Nat} (h:Rel K g H Γ m σ P) (e:Γ[i]?=some (some o)):∃ v P1,σ[i]?=some (some v)/\Rep K g H o (m.at i) v P1/\∀ a,P1 a->P a:=by
 obtain ⟨_,F,h1,h4⟩:=h;obtain ⟨d,v,e1,e2,r⟩:=h1.rep i o e;exact ⟨v,F i,e2,by rw [Hz e1];exact r,fun a q=>(h4 a).mpr ⟨i,q⟩⟩
theorem Rel.agree {m2:M} (h:Rel K g H Γ m σ P) (hl:m2.length=m.length) (ha:∀ i o,Γ[i]?=some (some o)->m2.at i=m.at i):Rel K g H Γ m2 σ P:=by
 obtain ⟨zd,F,h1,h4⟩:=h;refine ⟨zd,F,⟨hl.trans h1.l1,h1.l2,fun i o e=>?_,h1.out,h1.dj⟩,h4⟩;obtain ⟨d,v,e1,e2,r⟩:=h1.rep i o e;have hi:i < m2.length:=by rw [hl];exact (List.getElem?_eq_some_iff.mp e1).1
 refine ⟨d,v,?_,e2,r⟩;have:=ha i o e;unfold M.at at this;rw [List.getD_eq_getElem?_getD,List.getD_eq_getElem?_getD,e1,List.getElem?_eq_getElem hi] at this;rw [List.getElem?_eq_getElem hi];exact congrArg some this
theorem Rel.drop (i:Nat) (d:Dv) (x:Option V) (h:Rel K g H Γ m σ P):∃ P2,Rel K g H (Γ.set i none) (m.set i d) (σ.set i x) P2/\∀ a,P2 a->P a:=by
 obtain ⟨zd,F,h1,h4⟩:=h;refine ⟨fun a=>∃ j,j≠i/\F j a,⟨zd,fun j a=>j≠i/\F j a,⟨by rw [List.length_set,List.length_set,h1.l1],by rw [List.length_set,List.length_set,h1.l2],fun j o e=>?_,fun j e a q=>?_,fun j k n a q z=>h1.dj j k n a q.2 z.2⟩,fun _=>Iff.rfl⟩,fun a ⟨j,_,q⟩=>(h4 a).mpr ⟨j,q⟩⟩
 ·rcases DE e with ⟨_,z⟩ | ⟨n,e⟩
  ·cases z
  ·obtain ⟨d',v,e1,e2,r⟩:=h1.rep j o e;have eq:(fun a=>j≠i/\F j a)=F j:=funext fun a=>propext ⟨fun z=>z.2,fun z=>⟨fun q=>n q.symm,z⟩⟩
   exact ⟨d',v,by rw [List.getElem?_set_ne n];exact e1,by rw [List.getElem?_set_ne n];exact e2,by show Rep K g H o d' v (fun a=>j≠i/\F j a);rw [eq];exact r⟩
 ·refine h1.out j (fun o z=>e o ?_) a q.2;rw [List.getElem?_set_ne fun z=>q.1 z.symm];exact z
theorem Rel.fill {i o:Nat} {d:Dv} {v:V} {P1:Fp} (h:Rel K g H Γ m σ P) (e:Γ[i]?=some none) (hd:m[i]?=some d) (hv:σ[i]?=some (some v)) (r:Rep K g H o d v P1) (n:Disj P1 P):Rel K g H (Γ.set i (some o)) m σ fun a=>P1 a\/P a:=by
 obtain ⟨zd,F,h1,h4⟩:=h;have fi:∀ a,¬ F i a:=h1.out i fun o z=>by rw [e] at z;cases z
 have hi:i < Γ.length:=(List.getElem?_eq_some_iff.mp e).1;refine ⟨zd,fun j a=>if j=i then P1 a else F j a,⟨by rw [List.length_set];exact h1.l1,by rw [List.length_set];exact h1.l2,fun j o' e'=>?_,fun j e' a q=>?_,fun j k nn a q z=>?_⟩,fun a=>?_⟩
 ·rcases DE e' with ⟨rfl,z⟩ | ⟨nn,e'⟩
  ·cases z;have eq:(fun a=>if i=i then P1 a else F i a)=P1:=funext fun a=>by rw [if_pos rfl]
   exact ⟨d,v,hd,hv,by show Rep K g H o d v fun a=>if i=i then P1 a else F i a;rw [eq];exact r⟩
  ·obtain ⟨d',v',e1,e2,r'⟩:=h1.rep j o' e';have eq:(fun a=>if j=i then P1 a else F j a)=F j:=funext fun a=>by rw [if_neg fun z=>nn z.symm]
   exact ⟨d',v',e1,e2,by show Rep K g H o' d' v' fun a=>if j=i then P1 a else F j a;rw [eq];exact r'⟩
 ·by_cases z:j=i
  ·subst z;exact e' o (List.getElem?_set_self hi)
  ·simp only [if_neg z] at q;exact h1.out j (fun o' z'=>e' o' (by rw [List.getElem?_set_ne fun w=>z w.symm];exact z')) a q
 ·by_cases zj:j=i
  ·by_cases zk:k=i
   ·exact nn (zj.trans zk.symm)
   ·simp only [if_pos zj,if_neg zk] at q z;exact n a q ((h4 a).mpr ⟨k,z⟩)
  ·by_cases zk:k=i
   ·simp only [if_neg zj,if_pos zk] at q z;exact n a z ((h4 a).mpr ⟨j,q⟩)
   ·simp only [if_neg zj,if_neg zk] at q z;exact h1.dj j k nn a q z
 ·show P1 a\/P a↔_;rw [h4 a];refine ⟨fun z=>?_,fun ⟨j,z⟩=>?_⟩
  ·rcases z with z | ⟨j,z⟩
   ·exact ⟨i,by simp only [if_true];exact z⟩
   ·have:j≠i:=fun w=>fi a (w▸z)
    exact ⟨j,by simp only [if_neg this];exact z⟩
  ·by_cases zj:j=i
   ·simp only [if_pos zj] at z;exact .inl z
   ·simp only [if_neg zj] at z;exact .inr ⟨j,z⟩
theorem GD {α:Type} {l:List α} {i:Nat} {x:α} (h:l[i]?=some x):l.set i x=l:=by
 apply List.ext_getElem?;intro j
 by_cases e:i=j
 ·subst e;rw [List.getElem?_set_self (List.getElem?_eq_some_iff.mp h).1,h]
 ·rw [List.getElem?_set_ne e]
theorem Rel.take {i o:Nat} (h:Rel K g H Γ m σ P) (e:Γ[i]?=some (some o)):∃ v P1 P2,σ[i]?=some (some v)/\m[i]?=some (m.at i)/\Rep K g H o (m.at i) v P1/\Rel K g H (Γ.set i none) m σ P2/\Disj P1 P2/\∀ a,P a↔P1 a\/P2 a:=by
 obtain ⟨zd,F,h1,h4⟩:=h;obtain ⟨d,v,e1,e2,r⟩:=h1.rep i o e;refine ⟨v,F i,fun a=>∃ j,j≠i/\F j a,e2,by rw [Hz e1];exact e1,by rw [Hz e1];exact r,⟨zd,fun j a=>j≠i/\F j a,⟨by rw [List.length_set];exact h1.l1,by rw [List.length_set];exact h1.l2,fun j o' e'=>?_,fun j e' a q=>?_,fun j k n a q z=>h1.dj j k n a q.2 z.2⟩,fun _=>Iff.rfl⟩,fun a q ⟨j,n,z⟩=>h1.dj i j (fun w=>n w.symm) a q z,fun a=>?_⟩
 ·rcases DE e' with ⟨_,z⟩ | ⟨n,e'⟩
  ·cases z
  ·obtain ⟨d',v',e3,e4,r'⟩:=h1.rep j o' e';have eq:(fun a=>j≠i/\F j a)=F j:=funext fun a=>propext ⟨fun z=>z.2,fun z=>⟨fun q=>n q.symm,z⟩⟩
   exact ⟨d',v',e3,e4,by show Rep K g H o' d' v' (fun a=>j≠i/\F j a);rw [eq];exact r'⟩
 ·exact h1.out j (fun o' z=>e' o' (by rw [List.getElem?_set_ne fun w=>q.1 w.symm];exact z)) a q.2
 ·rw [h4 a];refine ⟨fun ⟨j,z⟩=>?_,fun z=>?_⟩
  ·by_cases zj:j=i
   ·exact .inl (zj▸z)
   ·exact .inr ⟨j,zj,z⟩
  ·rcases z with z | ⟨j,_,z⟩
   ·exact ⟨i,z⟩
   ·exact ⟨j,z⟩
theorem Cm {α:Type} (l:List α) (i:Nat) (x y:α):(l.set i x).set i y=l.set i y:=List.set_set ..
theorem Rel.setNew {Pv:Fp} {i o:Nat} {d:Dv} {v:V} (h:Rel K g H Γ m σ P) (hi:i < Γ.length) (hv:Rep K g H o d v Pv) (n:Disj Pv P) :
    ∃ P2,Rel K g H (Γ.set i (some o)) (m.set i d) (σ.set i (some v)) P2/\∀ a,P2 a->P a\/Pv a:=by
  obtain ⟨P2,h2,s⟩:=h.drop i d (some v);have l:=h.len;have:=h2.fill (i:=i) (List.getElem?_set_self hi) (List.getElem?_set_self (by omega)) (List.getElem?_set_self (by omega)) hv fun a q z=>n a q (s a z)
  rw [Cm] at this;exact ⟨_,this,fun a q=>q.elim .inr fun q=>.inl (s a q)⟩
theorem Rel.putIn {P1:Fp} {i o:Nat} {d:Dv} {v:V} (h:Rel K g H (Γ.set i none) m σ P) (hi:i < Γ.length) (hv:σ[i]?=some (some v)) (r:Rep K g H o d v P1) (n:Disj P1 P):∃ P2,Rel K g H (Γ.set i (some o)) (m.set i d) σ P2/\∀ a,P2 a->P1 a\/P a:=by
 obtain ⟨P2,h2,s⟩:=h.drop i d (some v);rw [GD hv] at h2;have l:=h.len;rw [List.length_set] at l;have h3:=h2.fill (i:=i) (by rw [Cm];exact List.getElem?_set_self hi) (List.getElem?_set_self (by omega)) hv r fun a q z=>n a q (s a z)
 rw [Cm,Cm] at h3;exact ⟨_,h3,fun a q=>q.elim .inl fun q=>.inr (s a q)⟩
theorem Rel.freeze {i o:Nat} (h:Rel K g H Γ m σ P) (e:Γ[i]?=some (some o)):∃ g' P' v,Step g P H g' P' H/\Rel K g' H (Γ.set i (some 0)) m σ P'/\σ[i]?=some (some v)/\Rep K g' H 0 (m.at i) v nop:=by
 obtain ⟨v,P1,P2,ev,ed,r,r2,n,hP⟩:=h.take e;have st:Step g P1 H (g.add P1) nop H:=Step.freeze r.fpOk;have fr:Rep K (g.add P1) H 0 (m.at i) v nop:=r.freeze fun _ q=>q
 have r3:=r2.held st r.fpOk fun a q z=>n a z q
 have hi:i < Γ.length:=(List.getElem?_eq_some_iff.mp e).1;have r4:=r3.fill (i:=i) (List.getElem?_set_self hi) ed ev fr fun _ z=>z.elim
 rw [Cm] at r4;refine ⟨_,_,v,?_,r4,ev,fr⟩;exact (st.frame (R:=P2)).sub (fun a q=>(hP a).mpr q) fun a q=>q.elim (fun z=>z.elim) .inr
def BP:Gm->Gm->Bool
 | [],[]=>true
 | none::a,_::b=>BP a b
 | some o::a,some o'::b=>(o == 0 || o == o') && BP a b
 | _,_=>false
theorem DP:∀ {a b:Gm},BP a b=true->a.length=b.length
 | [],[],_=>rfl
 | none::a,_::b,h=>by unfold BP at h;simp [DP h]
 | some o::a,some o'::b,h=>by unfold BP at h;simp [DP (Bool.and_eq_true_iff.mp h).2]
 | [],_::_,h=>by cases h
 | some _::_,none::_,h=>by cases h
 | some _::_,[],h=>by cases h
 | none::_,[],h=>by cases h
theorem EI:∀ {a b:Gm} {i o:Nat},BP a b=true->a[i]?=some (some o)->∃ o',b[i]?=some (some o')/\(o=0\/o=o')
 | [],_,i,o,_,e=>by simp at e
 | none::a,x::b,i,o,h,e=>by
  unfold BP at h;cases i with
  | zero=>simp at e
  | succ i=>obtain ⟨o',e',z⟩:=EI (i:=i) h (by simpa using e);exact ⟨o',by simpa using e',z⟩
 | some p::a,some p'::b,i,o,h,e=>by
  unfold BP at h;rw [Bool.and_eq_true] at h;cases i with
  | zero =>
   simp at e;subst e;refine ⟨p',rfl,?_⟩;have:=h.1;rw [Bool.or_eq_true,beq_iff_eq,beq_iff_eq] at this;exact this
  | succ i=>obtain ⟨o',e',z⟩:=EI (i:=i) h.2 (by simpa using e);exact ⟨o',by simpa using e',z⟩
 | some _::_,none::_,_,_,h,_=>by cases h
 | some _::_,[],_,_,h,_=>by cases h
 | none::_,[],_,_,h,_=>by cases h
theorem Rel.weaken {Γ':Gm} (h:Rel K g H Γ m σ P) (e:BP Γ' Γ=true):∃ g' P',Step g P H g' P' H/\Rel K g' H Γ' m σ P':=by
 have ok:=h.fpOk;obtain ⟨zd,F,h1,h4⟩:=h
 let D:Fp:=fun a=>∃ i,Γ'[i]?=some (some 0)/\F i a
 have okD:FpOk g H D:=fun a ⟨i,_,q⟩=>ok a ((h4 a).mpr ⟨i,q⟩)
 have st:Step g D H (g.add D) nop H:=Step.freeze okD
 let F':Nat->Fp:=fun i a=>(∃ o,Γ'[i]?=some (some (o+1)))/\F i a
 refine ⟨g.add D,fun a=>∃ i,F' i a,?_,st.zd zd,F',⟨by rw [DP e];exact h1.l1,by rw [DP e];exact h1.l2,fun i o ei=>?_,fun i ei a q=>?_,fun i j n a q z=>h1.dj i j n a q.2 z.2⟩,fun _=>Iff.rfl⟩
 ·refine (st.frame (R:=fun a=>∃ i,F' i a)).sub (fun a q=>?_) fun a q=>.inr q
  rcases q with ⟨i,_,q⟩ | ⟨i,q⟩
  ·exact (h4 a).mpr ⟨i,q⟩
  ·exact (h4 a).mpr ⟨i,q.2⟩
 ·obtain ⟨o',eo,z⟩:=EI e ei;obtain ⟨d,v,e1,e2,r⟩:=h1.rep i o' eo;refine ⟨d,v,e1,e2,?_⟩;cases o with
  | zero =>
   have eq:F' i=nop:=nop_iff fun a ⟨⟨o,w⟩,_⟩=>by rw [ei] at w;cases w
   rw [eq];exact r.freeze fun a q=>⟨i,ei,q⟩
  | succ o =>
   have eq:F' i=F i:=funext fun a=>propext ⟨fun w=>w.2,fun w=>⟨⟨o,ei⟩,w⟩⟩
   rcases z with z | z
   ·cases z
   ·subst z;rw [eq];refine r.held st okD fun a q ⟨j,ej,z⟩=>?_
    by_cases w:i=j
    ·subst w;rw [ei] at ej;cases ej
    ·exact h1.dj i j w a q z
 ·obtain ⟨⟨o,w⟩,_⟩:=q;exact ei _ w
end
theorem PE.imp {X:Cx} {e:Expr} {t t':TE} (h:PE X e t) (k:∀ σ H Q,t' σ H Q->t σ H Q):PE X e t':=fun pins s σ H Q I q=>h pins s σ H Q I (k σ H Q q)
theorem PT.imp {X:Cx} {e:Expr} {t t':TT} (h:PT X e t) (k:∀ σ H Q,t' σ H Q->t σ H Q):PT X e t':=fun pins s σ H Q I q=>h pins s σ H Q I (k σ H Q q)
theorem PW.imp {X:Cx} {e:Expr} {t t':TT} (h:PW X e t) (k:∀ σ H Q,t' σ H Q->t σ H Q):PW X e t':=fun wh pins s σ H Q I q=>h wh pins s σ H Q I (k σ H Q q)
theorem PS.imp {X:Cx} {e:Stmt} {t t':TS} (h:PS X e t) (k:∀ D σ H,t' D σ H->t D σ H):PS X e t':=fun pins s σ H D I q=>h pins s σ H D I (k D σ H q)
theorem Ce.imp {X:Cx} {e:List Stmt} {t t':TS} (h:Ce X e t) (k:∀ D σ H,t' D σ H->t D σ H):Ce X e t':=fun pins s σ H D I q=>h pins s σ H D I (k D σ H q)
noncomputable abbrev Ev (α:Type):=(R:Type)->M->(α->M->Option R)->Option R
def BU (js:List Nat) (m m':M):Prop:=m'.length=m.length/\∀ i,i∉js->m'.at i=m.at i
theorem BU.refl {js:List Nat} {m:M}:BU js m m:=⟨rfl,fun _ _=>rfl⟩
theorem BU.trans {js ks:List Nat} {m m1 m2:M} (a:BU js m m1) (b:BU ks m1 m2):BU (js++ks) m m2:=⟨b.1.trans a.1,fun i h=>(b.2 i fun z=>h (List.mem_append_right _ z)).trans (a.2 i fun z=>h (List.mem_append_left _ z))⟩
theorem BU.set {m:M} {i:Nat} {d:Dv}:BU [i] m (m.set i d):=⟨List.length_set ..,fun j h=>by
 have n:i≠j:=fun z=>h (by rw [z];exact List.mem_singleton_self _)
 unfold M.at;rw [List.getD_eq_getElem?_getD,List.getD_eq_getElem?_getD,List.getElem?_set_ne n]⟩
theorem BU.mono {js ks:List Nat} {m m1:M} (a:BU js m m1) (h:∀ i∈js,i∈ks):BU ks m m1:=⟨a.1,fun i n=>a.2 i fun z=>n (h i z)⟩
def tE (K:W.Frag) (Γ:Gm) (o:Nat) (Γ':Gm) (js:List Nat) (f:Ev Dv):TE:=fun σ H Q=>∃ g m P,Rel K g H Γ m σ P/\∃ (R:Type) (k:Dv->M->Option R) (r:R),f R m k=some r /\
 ∀ d m' g' P' Pv v H',k d m'=some r->BU js m m'->Step g P H g' (fun a=>P' a\/Pv a) H'->Rep K g' H' o d v Pv->Rel K g' H' Γ' m' σ P'->Disj P' Pv->Q v H'
def tT (K:W.Frag) (Γ Γ':Gm) (js:List Nat) (f:Ev Bool):TT:=fun σ H Q=>∃ g m P,Rel K g H Γ m σ P/\∃ (R:Type) (k:Bool->M->Option R) (r:R),f R m k=some r /\
 ∀ b m' g' P' H',k b m'=some r->BU js m m'->Step g P H g' P' H'->Rel K g' H' Γ' m' σ P'->Q b H'
inductive Ar:Type 1 where
 | rf (i:Nat)
 | ev (Γ Γ':Gm) (js:List Nat) (f:Ev Dv)
def Gr (K:W.Frag):Ar->TE
 | .rf i=>Fm i
 | .ev Γ Γ' js f=>tE K Γ 0 Γ' js f
def BM (K:W.Frag):List Ar->TA
 | []=>TM
 | a::as=>WC (Gr K a) (BM K as)
def AM:List Ar->Ev (List Dv)
 | [],_,m,k=>k [] m
 | .rf i::as,R,m,k=>AM as R m fun ds m1=>k (m1.at i::ds) m1
 | .ev _ _ _ f::as,R,m,k=>f R m fun d m1=>AM as R m1 fun ds m2=>k (d::ds) m2
def AD:Gm->List Ar->Gm->List Nat->Prop
 | Γ,[],Γ',js=>Γ'=Γ/\js=[]
 | Γ,.rf i::as,Γ',js=>(∃ o,Γ[i]?=some (some o))/\(∃ o,o<=1/\Γ'[i]?=some (some o))/\AD Γ as Γ' js
 | Γ,.ev Γ1 Γ2 js1 _::as,Γ',js=>Γ1=Γ/\∃ js2,js=js1++js2/\AD Γ2 as Γ' js2
def AO (K:W.Frag) (g:G) (H:Hp) (Γ:Gm) (m:M) (σ:St):List Ar->List Dv->List V->Prop
 | [],ds,vs=>ds=[]/\vs=[]
 | .rf i::as,ds,vs=>∃ v ds' vs',ds=m.at i::ds'/\vs=v::vs'/\σ[i]?=some (some v)/\(∃ o,o<=1/\Γ[i]?=some (some o))/\AO K g H Γ m σ as ds' vs'
 | .ev _ _ _ _::as,ds,vs=>∃ d v ds' vs',ds=d::ds'/\vs=v::vs'/\Rep K g H 0 d v nop/\AO K g H Γ m σ as ds' vs'
theorem AJ {K:W.Frag} {σ:St}:∀ (as:List Ar) {g:G} {Γ Γ':Gm} {js:List Nat} {m:M} {P:Fp} {H:Hp} {R:Type} {k:List Dv->M->Option R} {r:R} {Q:List V->Hp->Prop},Rel K g H Γ m σ P->AD Γ as Γ' js->AM as R m k=some r ->
    (∀ ds m' g' P' vs H',k ds m'=some r->BU js m m'->Step g P H g' P' H'->AO K g' H' Γ' m' σ as ds vs->Rel K g' H' Γ' m' σ P'->Q vs H')->BM K as σ H Q
  | [],g,Γ,Γ',js,m,P,H,R,k,r,Q,rl,c,e,q=>by
    unfold AD at c;obtain ⟨rfl,rfl⟩:=c;exact q [] m g P [] H e BU.refl Step.refl (by unfold AO;exact ⟨rfl,rfl⟩) rl
  | .rf i::as,g,Γ,Γ',js,m,P,H,R,k,r,Q,rl,c,e,q=>by
    unfold AD at c;obtain ⟨⟨o,ho⟩,h2,c⟩:=c;obtain ⟨v,_,hv,_⟩:=rl.see ho;refine ⟨v,hv,AJ as rl c e fun ds m' g' P' vs H' hk ag s ar r1=>q _ m' g' P' _ H' hk ag s ?_ r1⟩;unfold AO;exact ⟨v,ds,vs,rfl,rfl,hv,h2,ar⟩
  | .ev Γ1 Γ2 js1 f::as,g,Γ,Γ',js,m,P,H,R,k,r,Q,rl,c,e,q=>by
    unfold AD at c;obtain ⟨rfl,js2,rfl,c⟩:=c;refine ⟨g,m,P,rl,R,_,r,e,fun d m1 g1 P1 Pv v H1 hk ag s rv r1 n=>?_⟩;refine AJ as r1 c hk fun ds m2 g2 P2 vs H2 hk2 ag2 s2 ar r2=>q _ m2 g2 P2 _ H2 hk2 (ag.trans ag2) ((s.less fun _ q=>.inl q).trans s2) ?_ r2
    unfold AO;exact ⟨d,v,ds,vs,rfl,rfl,rv.z.held s2 r1.fpOk fun _ z=>z.elim,ar⟩
def RA (K:W.Frag) (g:G) (H:Hp):List Dv->List V->Prop
 | [],vs=>vs=[]
 | d::ds,vs=>∃ v r o P,vs=v::r/\o<=1/\Rep K g H o d v P/\RA K g H ds r
def AV (K:W.Frag) (g:G) (H:Hp) (o:Nat) (d:Dv) (v:V) (H':Hp):Prop:=Lw H H'/\∃ Pv,Rep K g H' o d v Pv/\∀ a,Pv a->H a=none
noncomputable abbrev Pr:=List Dv->Option Dv
abbrev Og:=List V->Hp->VK->Prop
def AH (K:W.Frag) (p:Pr) (o:Nat) (R:Og):Prop:=∀ g H ds vs d Q,Zd g H->RA K g H ds vs->p ds=some d->(∀ v H',AV K g H o d v H'->Q v H')->R vs H Q
def Cy (p:Pr) (fa:Ev (List Dv)):Ev Dv:=fun R m k=>fa R m fun ds m'=>(p ds).bind fun d=>k d m'
theorem bind_some'.{u,v} {α:Type u} {β:Type v} {x:Option α} {f:α->Option β} {b:β} (h:x.bind f=some b):∃ a,x=some a/\f a=some b:=Option.bind_eq_some_iff.mp h
section
variable {K:W.Frag} {g:G} {H H':Hp} {σ:St} {Γ Γ':Gm} {m:M} {P:Fp}
theorem AO.ra (r:Rel K g H Γ m σ P):∀ {as:List Ar} {ds:List Dv} {vs:List V},AO K g H Γ m σ as ds vs->RA K g H ds vs
 | [],ds,vs,h=>by unfold AO at h;obtain ⟨rfl,rfl⟩:=h;unfold RA;rfl
 | .ev _ _ _ f::as,ds,vs,h=>by
  unfold AO at h;obtain ⟨d,v,ds',vs',rfl,rfl,h1,h2⟩:=h;unfold RA;exact ⟨v,vs',0,nop,rfl,by decide,h1,AO.ra r h2⟩
 | .rf i::as,ds,vs,h=>by
  unfold AO at h;obtain ⟨v,ds',vs',rfl,rfl,h1,⟨o,hl,ho⟩,h3⟩:=h;obtain ⟨v',P1,e,k,_⟩:=r.see ho;rw [h1] at e;cases e;unfold RA;exact ⟨v,vs',o,P1,rfl,hl,k,AO.ra r h3⟩
theorem AV.go {g0:G} {P0:Fp} {H0:Hp} {o:Nat} {d:Dv} {v:V} (s:Step g0 P0 H0 g P H) (r:Rel K g H Γ m σ P) (n:AV K g H o d v H') :
    ∃ Pv,Step g0 P0 H0 g (fun a=>P a\/Pv a) H'/\Rep K g H' o d v Pv/\Rel K g H' Γ m σ P/\Disj P Pv:=by
  obtain ⟨sm,Pv,h1,h2⟩:=n;refine ⟨Pv,s.trans ⟨fun b o h _=>sm b o h,(Step.same (g:=g) (P:=nop) sm).dom,fun _ h=>h,fun _ h=>.inl h,⟨[],by simp⟩,fun a h=>h.elim .inl fun q=>.inr (h2 a q),(Step.same (g:=g) (P:=nop) sm).zd⟩,h1,r.same sm,fun a q z=>r.fpOk.new (h2 a z) q⟩
theorem Be {p:Pr} {o:Nat} {as:List Ar} {js:List Nat} {R:Og} (hp:AH K p o R) (c:AD Γ as Γ' js) {Q:VK} (h:tE K Γ o Γ' js (Cy p (AM as)) σ H Q):BM K as σ H fun vs H1=>R vs H1 Q:=by
 obtain ⟨g,m,P,r,R',k,res,e,q⟩:=h;refine AJ as r c e fun ds m' g' P' vs H1 hk ag s ar r1=>?_
 obtain ⟨d,e1,e2⟩:=bind_some' hk;refine hp g' H1 ds vs d Q r1.zd (ar.ra r1) e1 fun v H2 nw=>?_
 obtain ⟨Pv,s2,h1,r2,n2⟩:=AV.go s r1 nw;exact q d m' g' P' Pv v H2 e2 ag s2 h1 r2 n2
end
def Iz (r:R2):Og:=fun vs H Q=>match vs with | [x,y]=>r x y H Q | _=>False
def dW (r:V->Hp->VK->Prop):Og:=fun vs H Q=>match vs with | [x]=>r x H Q | _=>False
def Jw (d:Dv):Ev Dv:=fun _ m k=>k d m
def Mf (i:Nat):Ev Dv:=fun _ m k=>k (m.at i) m
section
variable {X:Cx} {e:Expr} {Γ Γ':Gm} {js:List Nat} {o:Nat} {f:Ev Dv}
theorem Zz {v:V} {d:Dv} (h:PE X e (tC v)) (hd:∀ g H,Rep X.K g H o d v nop):PE X e (tE X.K Γ o Γ [] (Jw d)):=PE.imp h fun σ H Q q=>by
 obtain ⟨g,m,P,r,R,k,res,e,q⟩:=q;exact q d m g P nop v H e BU.refl (Step.refl.less fun _ q=>q.elim id False.elim) (hd g H) r fun _ _ z=>z
theorem az {i:Nat} (h:PE X e (Fm i)) {o:Nat} (hi:Γ[i]?=some (some o)):PE X e (tE X.K Γ 0 (Γ.set i (some 0)) [] (Mf i)):=PE.imp h fun σ H Q q=>by
 obtain ⟨g,m,P,r,R,k,res,e,q⟩:=q;obtain ⟨g',P',v,s,r',ev,rv⟩:=r.freeze hi;exact ⟨v,ev,q _ m g' P' nop v H e BU.refl (s.less fun _ q=>q.elim id False.elim) rv r' fun _ _ z=>z⟩
theorem bB {i:Nat} (h:PE X e (Fm i)) (hi:Γ[i]?=some (some o)):PE X e (tE X.K Γ o (Γ.set i none) [] (Mf i)):=PE.imp h fun σ H Q q=>by
 obtain ⟨g,m,P,r,R,k,res,e,q⟩:=q;obtain ⟨v,P1,P2,ev,_,rv,r2,n,hP⟩:=r.take hi;exact ⟨v,ev,q _ m g P2 P1 v H e BU.refl (Step.refl.less fun a q=>(hP a).mpr q.symm) rv r2 fun a q z=>n a z q⟩
theorem Cd (h:PE X e (tE X.K Γ o Γ' js f)):PE X e (tE X.K Γ 0 Γ' js f):=PE.imp h fun σ H Q q=>by
 obtain ⟨g,m,P,r,R,k,res,e,q⟩:=q;refine ⟨g,m,P,r,R,k,res,e,fun d m' g' P' Pv v H' hk ag s rv r1 n=>?_⟩;have st:Step g' Pv H' (g'.add Pv) nop H':=Step.freeze rv.fpOk;refine q d m' (g'.add Pv) P' nop v H' hk ag (s.trans ?_) (rv.freeze fun _ q=>q) (r1.held st rv.fpOk n) fun _ _ z=>z
 exact (st.frame (R:=P')).sub (fun a q=>q.symm) fun a q=>q.elim .inr False.elim
end
def Mg (t:List Dv->Dv) (fa:Ev (List Dv)):Ev Dv:=fun R m k=>fa R m fun ds m'=>if ds.length<=1000000 then k (t ds) m' else none
noncomputable def evd:List Ar->Bool
 | []=>true
 | .ev _ _ _ _::as=>evd as
 | .rf _::_=>false
theorem AO.reps {K:W.Frag} {g:G} {H:Hp} {Γ:Gm} {m:M} {σ:St}:∀ {as:List Ar} {ds:List Dv} {vs:List V},evd as=true->AO K g H Γ m σ as ds vs->Reps K g H 0 ds vs nop
 | [],ds,vs,_,h=>by unfold AO at h;obtain ⟨rfl,rfl⟩:=h;exact Reps.nil
 | .ev _ _ _ f::as,ds,vs,e,h=>by
  unfold AO at h;obtain ⟨d,v,ds',vs',rfl,rfl,h1,h2⟩:=h;exact (Reps.cons h1 (AO.reps (by unfold evd at e;exact e) h2) fun _ z=>z.elim).iff fun a=>⟨fun z=>z.elim,fun z=>z.elim id id⟩
 | .rf i::as,ds,vs,e,h=>by unfold evd at e;cases e
section
variable {X:Cx} {es:List Expr} {Γ Γ':Gm} {js:List Nat} {as:List Ar} {pos:Pos}
theorem bA {x1} (hq:PA X es (BM X.K as)) (c:AD Γ as Γ' js) (he:evd as=true):PE X (.Tuple es x1 pos) (tE X.K Γ 1 Γ' js (Mg .tup (AM as))):=PE.imp (YF hq) fun σ H Q q=>by
 obtain ⟨g,m,P,r,R,k,res,e,q⟩:=q;refine AJ as r c e fun ds m' g' P' vs H1 hk ag s ar r1=>?_
 split at hk
 ·rename_i hz;have rp:=ar.reps he;refine ⟨by rw [<- rp.len];exact Nat.le_trans hz (by decide),fun p hp=>?_⟩;have sm:=Cn hp (.tup vs);have st:=Step.same (g:=g') (P:=nop) sm;refine q _ m' g' P' nop (.ref p) _ hk ag ((s.trans (Step.same sm)).less fun _ q=>q.elim id False.elim) ?_ (r1.same sm) fun _ _ z=>z
  unfold Rep;exact ⟨p,vs,rfl,BL,rp.held st FpOk.nop fun _ _ z=>z⟩
 ·cases hk
theorem AV.lst {K:W.Frag} {g:G} {H:Hp} {ds:List Dv} {vs:List V} {p:Addr} (zd:Zd g H) (rp:Reps K g H 0 ds vs nop) (hp:H p=none):AV K g H 1 (.lst ds) (.ref p) (upd H p (.lst vs)):=by
 have sm:=Cn hp (.lst vs);refine ⟨sm,fun b=>b=p,?_,fun a q=>q▸hp⟩;unfold Rep;exact ⟨p,vs,nop,rfl,⟨BL,(fun z=>by cases z),fun _ z=>zd p z hp⟩,rp.held (Step.same (g:=g) (P:=nop) sm) FpOk.nop fun _ _ z=>z,fun z=>z,fun b=>⟨fun z=>.inl ⟨by decide,z⟩,fun z=>z.elim (fun z=>z.2) False.elim⟩⟩
theorem bC (hq:PA X es (BM X.K as)) (c:AD Γ as Γ' js) (he:evd as=true):PE X (.List es pos) (tE X.K Γ 1 Γ' js (Mg .lst (AM as))):=PE.imp (YK hq) fun σ H Q q=>by
 obtain ⟨g,m,P,r,R,k,res,e,q⟩:=q;refine AJ as r c e fun ds m' g' P' vs H1 hk ag s ar r1=>?_
 split at hk
 ·rename_i hz;have rp:=ar.reps he;refine ⟨by rw [<- rp.len];exact Nat.le_trans hz (by decide),fun p hp=>?_⟩;obtain ⟨Pv,s2,h1,r2,n2⟩:=AV.go s r1 (AV.lst r1.zd rp hp);exact q _ m' g' P' Pv (.ref p) _ hk ag s2 h1 r2 n2
 ·cases hk
end
def DX:List Nat->Type
 | []=>Unit
 | [_]=>Dv
 | _::i::J=>Dv×DX (i::J)
noncomputable def AU:(J:List Nat)->M->DX J
 | [],_=>()
 | [i],m=>m.at i
 | i::j::J,m=>(m.at i,AU (j::J) m)
noncomputable def AX:(J:List Nat)->M->DX J->M
 | [],m,_=>m
 | [i],m,d=>m.set i d
 | i::j::J,m,t=>AX (j::J) (m.set i t.1) t.2
theorem Pn {m:M} {i:Nat} {d:Dv} (h:i < m.length):M.at (m.set i d) i=d:=Hz (List.getElem?_set_self h)
theorem GQ:∀ (J:List Nat) (m:M) (t:DX J),(AX J m t).length=m.length
 | [],_,_=>rfl
 | [i],m,d=>List.length_set ..
 | i::j::J,m,t=>by unfold AX;rw [GQ];exact List.length_set ..
theorem AN:∀ (J:List Nat) (m:M) (t:DX J),BU J m (AX J m t)
 | [],_,_=>BU.refl
 | [i],m,d=>BU.set
 | i::j::J,m,t=>by
  unfold AX;exact (BU.set (i:=i)).trans (AN (j::J) _ _)
theorem MQ:∀ (J:List Nat) (m m':M) (i:Nat),i < m.length->i∈J->M.at (AX J m (AU J m')) i=m'.at i
 | [],_,_,_,_,h=>by cases h
 | [i],m,m',k,hk,h=>by
  have e:=List.mem_singleton.mp h;subst e;exact Pn hk
 | i::j::J,m,m',k,hk,h=>by
  show M.at (AX (j::J) (m.set i (m'.at i)) (AU (j::J) m')) k=_
  by_cases z:k∈j::J
  ·exact MQ (j::J) _ m' k (by rw [List.length_set];exact hk) z
  ·rw [(AN (j::J) _ _).2 k z];rcases List.mem_cons.mp h with e | e
   ·subst e;exact Pn hk
   ·exact (z e).elim
def Au (Γ:Gm) (js:List Nat):List Nat:=(List.range Γ.length).filter fun i=>js.contains i && (Γ.getD i none).isSome
theorem BH {Γ:Gm} {js:List Nat} {i o:Nat} (h:Γ[i]?=some (some o)):i∈Au Γ js\/i∉js:=by
 by_cases e:i∈js
 ·refine .inl (List.mem_filter.mpr ⟨List.mem_range.mpr (List.getElem?_eq_some_iff.mp h).1,?_⟩);rw [Bool.and_eq_true,List.contains_iff_mem,List.getD_eq_getElem?_getD,h];exact ⟨e,rfl⟩
 ·exact .inr e
theorem As {Γ:Gm} {js:List Nat} {i:Nat} (h:i∈Au Γ js):i∈js:=by
 have:=(List.mem_filter.mp h).2;rw [Bool.and_eq_true,List.contains_iff_mem] at this;exact this.1
theorem Rel.join {K:W.Frag} {g:G} {H:Hp} {Γ:Gm} {m m':M} {σ:St} {P:Fp} {J js:List Nat} (r:Rel K g H Γ m' σ P) (ag:BU js m m') (hj:∀ i o,Γ[i]?=some (some o)->i∈J\/i∉js):Rel K g H Γ (AX J m (AU J m')) σ P:=by
 refine r.agree ((GQ ..).trans ag.1.symm) fun i o e=>?_
 have hi:i < m.length:=by rw [<- ag.1,r.len.1];exact (List.getElem?_eq_some_iff.mp e).1
 by_cases z:i∈J
 ·exact MQ J m m' i hi z
 ·rw [(AN J m _).2 i z];exact (ag.2 i ((hj i o e).elim (fun q=>(z q).elim) id)).symm
def Wm (p:List Dv->Option Bool) (fa:Ev (List Dv)):Ev Bool:=fun R m k=>fa R m fun ds m'=>(p ds).bind fun b=>k b m'
def LW (f:Ev Bool):Ev Dv:=fun R m k=>f R m fun b m'=>k (.bl b) m'
def Wj (f:Ev Bool):Ev Bool:=fun R m k=>f R m fun b m'=>k (!b) m'
def Ge {α:Type} (c:Ev Bool) (f g:Ev α):Ev α:=fun R m k=>c R m fun b m1=>if b=true then f R m1 k else g R m1 k
def Jn (α:Type):List Nat->Type
 | []=>α
 | i::J=>α×DX (i::J)
def WW {α:Type}:(J:List Nat)->α->M->Jn α J
 | [],a,_=>a
 | i::J,a,m=>(a,AU (i::J) m)
def fj {α R:Type}:(J:List Nat)->M->Jn α J->(α->M->Option R)->Option R
 | [],m,a,k=>k a m
 | i::J,m,t,k=>k t.1 (AX (i::J) m t.2)
theorem Ox {α R:Type} (J:List Nat) (m m':M) (a:α) (k:α->M->Option R):fj J m (WW J a m') k=k a (AX J m (AU J m')):=by cases J<;>rfl
def LU {α:Type} (J:List Nat) (f:Ev α):Ev α:=fun R m k=>(f (Jn α J) m fun a m'=>some (WW J a m')).bind fun t=>fj J m t k
section
variable {K:W.Frag} {Γ Γ' Γ2 Γ3:Gm} {js js2 js3 J:List Nat} {σ:St} {H:Hp} {o:Nat}
theorem FX {f:Ev Dv} {Q:VK} (hj:∀ i o,Γ'[i]?=some (some o)->i∈J\/i∉js) (hs:∀ i∈J,i∈js) (h:tE K Γ o Γ' js (LU J f) σ H Q):tE K Γ o Γ' js f σ H Q:=by
 obtain ⟨g,m,P,r,R,k,res,e,q⟩:=h;obtain ⟨t,e1,e2⟩:=bind_some' e;refine ⟨g,m,P,r,_,_,t,e1,fun d m' g' P' Pv v H' hk ag s rv r1 n=>?_⟩;cases hk;rw [Ox] at e2;exact q d _ g' P' Pv v H' e2 ((AN J m _).mono hs) s rv (r1.join ag hj) n
theorem MX {f:Ev Bool} {Q:Bool->Hp->Prop} (hj:∀ i o,Γ'[i]?=some (some o)->i∈J\/i∉js) (hs:∀ i∈J,i∈js) (h:tT K Γ Γ' js (LU J f) σ H Q):tT K Γ Γ' js f σ H Q:=by
 obtain ⟨g,m,P,r,R,k,res,e,q⟩:=h;obtain ⟨t,e1,e2⟩:=bind_some' e;refine ⟨g,m,P,r,_,_,t,e1,fun d m' g' P' H' hk ag s r1=>?_⟩;cases hk;rw [Ox] at e2;exact q d _ g' P' H' e2 ((AN J m _).mono hs) s (r1.join ag hj)
theorem Lz {f:Ev Bool} {Q:Bool->Hp->Prop} (hw:BP Γ2 Γ'=true) (hs:∀ i∈js,i∈js2) (h:tT K Γ Γ2 js2 f σ H Q):tT K Γ Γ' js f σ H Q:=by
 obtain ⟨g,m,P,r,R,k,res,e,q⟩:=h;refine ⟨g,m,P,r,R,k,res,e,fun b m' g' P' H' hk ag s r1=>?_⟩;obtain ⟨g2,P2,s2,r2⟩:=r1.weaken hw;exact q b m' g2 P2 H' hk (ag.mono hs) (s.trans s2) r2
theorem FS {f:Ev Dv} {Q:VK} (hw:BP Γ2 Γ'=true) (hs:∀ i∈js,i∈js2) (h:tE K Γ 0 Γ2 js2 f σ H Q):tE K Γ 0 Γ' js f σ H Q:=by
 obtain ⟨g,m,P,r,R,k,res,e,q⟩:=h;refine ⟨g,m,P,r,R,k,res,e,fun b m' g' P' Pv v H' hk ag s rv r1 n=>?_⟩;obtain ⟨g2,P2,s2,r2⟩:=r1.weaken hw;exact q b m' g2 P2 nop v H' hk (ag.mono hs) (((s.less fun _ q=>.inl q).trans s2).less fun _ q=>q.elim id False.elim) (rv.z.held s2 r1.fpOk fun _ z=>z.elim) r2 fun _ _ z=>z
theorem dM {p:List Dv->Option Bool} {as:List Ar} {r:Og} (hp:AH K (fun ds=>(p ds).map .bl) 0 r) (c:AD Γ as Γ' js) {Q:Bool->Hp->Prop} (h:tT K Γ Γ' js (Wm p (AM as)) σ H Q):BM K as σ H fun vs H1=>r vs H1 fun x H'=>∃ k,x=.bl k/\Q k H':=by
 obtain ⟨g,m,P,rl,R',k,res,e,q⟩:=h;refine AJ as rl c e fun ds m' g' P' vs H1 hk ag s ar r1=>?_
 obtain ⟨b,e1,e2⟩:=bind_some' hk;refine hp g' H1 ds vs (.bl b) _ r1.zd (ar.ra r1) (by show (p ds).map _=_;rw [e1];rfl) fun v H2 nw=>?_
 obtain ⟨Pv,s2,h1,r2,n2⟩:=AV.go s r1 nw;refine ⟨b,by unfold Rep at h1;exact h1.1,q b m' g' P' H2 e2 ag (s2.less fun _ q=>.inl q) r2⟩
theorem rep_bl {g:G} {o:Nat} {b:Bool} {v:V} {P:Fp} (h:Rep K g H o (.bl b) v P):v=.bl b:=by unfold Rep at h;exact h.1
theorem Bt {g:G} {b:Bool}:Rep K g H o (.bl b) (.bl b) nop:=by unfold Rep;exact ⟨rfl,fun _ z=>z⟩
theorem PH {t u:Ev Bool} {Q:Bool->Hp->Prop} (h:tT K Γ Γ' (js++js2) (Ge t u (fun R m k=>k false m)) σ H Q) (hw:BP Γ' Γ2=true):ah (tT K Γ Γ2 js t) (tT K Γ2 Γ' js2 u) σ H Q:=by
 obtain ⟨g,m,P,r,R,k,res,e,q⟩:=h;refine ⟨g,m,P,r,R,_,res,e,fun b m1 g1 P1 H1 hk ag s r1=>?_⟩;cases b with
 | true =>
  rw [if_pos rfl] at hk ⊢;exact ⟨g1,m1,P1,r1,R,k,res,hk,fun c m2 g2 P2 H2 hk2 ag2 s2 r2=>q c m2 g2 P2 H2 hk2 (ag.trans ag2) (s.trans s2) r2⟩
 | false =>
  rw [if_neg Bool.false_ne_true] at hk ⊢;obtain ⟨g2,P2,s2,r2⟩:=r1.weaken hw;exact q false m1 g2 P2 H1 hk (ag.mono fun _ z=>List.mem_append_left _ z) (s.trans s2) r2
theorem aP {t u:Ev Bool} {Q:Bool->Hp->Prop} (h:tT K Γ Γ' (js++js2) (Ge t (fun R m k=>k true m) u) σ H Q) (hw:BP Γ' Γ2=true):fw (tT K Γ Γ2 js t) (tT K Γ2 Γ' js2 u) σ H Q:=by
 obtain ⟨g,m,P,r,R,k,res,e,q⟩:=h;refine ⟨g,m,P,r,R,_,res,e,fun b m1 g1 P1 H1 hk ag s r1=>?_⟩;cases b with
 | false =>
  rw [if_neg Bool.false_ne_true] at hk ⊢;exact ⟨g1,m1,P1,r1,R,k,res,hk,fun c m2 g2 P2 H2 hk2 ag2 s2 r2=>q c m2 g2 P2 H2 hk2 (ag.trans ag2) (s.trans s2) r2⟩
 | true =>
  rw [if_pos rfl] at hk ⊢;obtain ⟨g2,P2,s2,r2⟩:=r1.weaken hw;exact q true m1 g2 P2 H1 hk (ag.mono fun _ z=>List.mem_append_left _ z) (s.trans s2) r2
theorem XG {t:Ev Bool} {Q:Bool->Hp->Prop} (h:tT K Γ Γ' js (Wj t) σ H Q):aT (tT K Γ Γ' js t) σ H Q:=by
 obtain ⟨g,m,P,r,R,k,res,e,q⟩:=h;exact ⟨g,m,P,r,R,_,res,e,fun b m1 g1 P1 H1 hk ag s r1=>q (!b) m1 g1 P1 H1 hk ag s r1⟩
theorem aX {c:Ev Bool} {fa fb:Ev Dv} {Q:VK} (h:tE K Γ 0 Γ' (js++(js2++js3)) (Ge c fa fb) σ H Q):gA (tT K Γ Γ2 js c) (tE K Γ2 0 Γ' js2 fa) (tE K Γ2 0 Γ' js3 fb) σ H Q:=by
 obtain ⟨g,m,P,r,R,k,res,e,q⟩:=h;refine ⟨g,m,P,r,R,_,res,e,fun b m1 g1 P1 H1 hk ag s r1=>?_⟩;cases b with
 | true =>
  rw [if_pos rfl] at hk ⊢;exact ⟨g1,m1,P1,r1,R,k,res,hk,fun d m2 g2 P2 Pv v H2 hk2 ag2 s2 rv r2 n=>q d m2 g2 P2 Pv v H2 hk2 ((ag.trans ag2).mono fun i z=>(List.mem_append.mp z).elim (fun z=>List.mem_append_left _ z) fun z=>List.mem_append_right _ (List.mem_append_left _ z)) (s.trans s2) rv r2 n⟩
 | false =>
  rw [if_neg Bool.false_ne_true] at hk ⊢;exact ⟨g1,m1,P1,r1,R,k,res,hk,fun d m2 g2 P2 Pv v H2 hk2 ag2 s2 rv r2 n=>q d m2 g2 P2 Pv v H2 hk2 ((ag.trans ag2).mono fun i z=>(List.mem_append.mp z).elim (fun z=>List.mem_append_left _ z) fun z=>List.mem_append_right _ (List.mem_append_right _ z)) (s.trans s2) rv r2 n⟩
end
structure Kt (R:Type) where
 nx:M->Option R
 rt:Dv->M->Option R
 bk:M->Option R
 ct:M->Option R
noncomputable abbrev Es:=(R:Type)->M->Kt R->Option R
def Io (io:List Nat) (σ σ':St):Prop:=∀ i∈io,σ'[i]?=σ[i]?
theorem Io.refl {io:List Nat} {σ:St}:Io io σ σ:=fun _ _=>rfl
theorem Io.trans {io:List Nat} {σ σ1 σ2:St} (a:Io io σ σ1) (b:Io io σ1 σ2):Io io σ σ2:=fun i h=>(b i h).trans (a i h)
theorem Io.set {io:List Nat} {σ:St} {i:Nat} {x:Option V} (h:i∉io):Io io σ (σ.set i x):=fun j hj=>List.getElem?_set_ne fun z=>h (by rw [z];exact hj)
structure Fr where
 io:List Nat
 Γr:Gm
 ro:Nat
structure AcS (K:W.Frag) (F:Fr) (Γl:Option Gm) (g:G) (P:Fp) (H:Hp) (σ:St) (D:Ends) (Γn:Option Gm) (js:List Nat) (m:M) {R:Type} (k:Kt R) (r:R):Prop where
 nx:∀ Γ' m' g' P' σ' H',Γn=some Γ'->k.nx m'=some r->BU js m m'->Step g P H g' P' H'->Io F.io σ σ'->Rel K g' H' Γ' m' σ' P'->D.nx σ' H'
 rt:∀ d m' g' P' Pv σ' v H',k.rt d m'=some r->BU js m m'->Step g P H g' (fun a=>P' a\/Pv a) H'->Io F.io σ σ'->Rep K g' H' F.ro d v Pv->Rel K g' H' F.Γr m' σ' P'->Disj P' Pv->D.rt v H'
 bk:∀ Γ' m' g' P' σ' H',Γl=some Γ'->k.bk m'=some r->BU js m m'->Step g P H g' P' H'->Io F.io σ σ'->Rel K g' H' Γ' m' σ' P'->D.bk σ' H'
 ct:∀ Γ' m' g' P' σ' H',Γl=some Γ'->k.ct m'=some r->BU js m m'->Step g P H g' P' H'->Io F.io σ σ'->Rel K g' H' Γ' m' σ' P'->D.ct σ' H'
def tS (K:W.Frag) (F:Fr) (Γl:Option Gm) (Γ:Gm) (Γn:Option Gm) (js:List Nat) (f:Es):TS:=fun D σ H=>∃ g m P,Rel K g H Γ m σ P/\∃ (R:Type) (k:Kt R) (r:R),f R m k=some r/\AcS K F Γl g P H σ D Γn js m k r
theorem AcS.later {K:W.Frag} {F:Fr} {Γl Γn:Option Gm} {g g1:G} {P P1:Fp} {H H1:Hp} {σ σ1:St} {D:Ends} {js ks:List Nat} {m m1:M} {R:Type} {k:Kt R} {r:R} (s:Step g P H g1 P1 H1) (i:Io F.io σ σ1) (ag:BU js m m1) (h:AcS K F Γl g P H σ D Γn (js++ks) m k r):AcS K F Γl g1 P1 H1 σ1 D Γn ks m1 k r:=
  ⟨fun Γ' m' g' P' σ' H' e hk a s' i' r'=>h.nx Γ' m' g' P' σ' H' e hk (ag.trans a) (s.trans s') (i.trans i') r',
   fun d m' g' P' Pv σ' v H' hk a s' i' rv r' n=>h.rt d m' g' P' Pv σ' v H' hk (ag.trans a) (s.trans s') (i.trans i') rv r' n,
   fun Γ' m' g' P' σ' H' e hk a s' i' r'=>h.bk Γ' m' g' P' σ' H' e hk (ag.trans a) (s.trans s') (i.trans i') r',
   fun Γ' m' g' P' σ' H' e hk a s' i' r'=>h.ct Γ' m' g' P' σ' H' e hk (ag.trans a) (s.trans s') (i.trans i') r'⟩
def Gd:Es:=fun _ m k=>k.nx m
def cV (f g:Es):Es:=fun R m k=>f R m { k with nx:=fun m1=>g R m1 k }
def Jx (c:Ev Bool) (f g:Es):Es:=fun R m k=>c R m fun b m1=>if b=true then f R m1 k else g R m1 k
def Wh (f:Ev Dv):Es:=fun R m k=>f R m k.rt
def RL (f:Ev Dv):Es:=fun R m k=>f R m fun _ m1=>k.nx m1
section
variable {X:Cx} {F:Fr} {Γl Γn Γn2:Option Gm} {Γ Γ' Γ2:Gm} {js js2 js3 J:List Nat} {s:Stmt} {ss rest a b:List Stmt} {e c:Expr} {pos:Pos} {f f2:Es} {fe:Ev Dv} {t:Ev Bool} {o:Nat}
theorem Fv {K:W.Frag} {D:Ends} {σ:St} {H:Hp} (h:tS K F Γl Γ (some Γ) [] Gd D σ H):D.nx σ H:=by
 obtain ⟨g,m,P,r,R,k,res,e,q⟩:=h;exact q.nx Γ m g P σ H rfl e BU.refl Step.refl Io.refl r
theorem aw:Ce X [] (tS X.K F Γl Γ (some Γ) [] Gd):=Ce.imp Tq fun D σ H h=>Fv h
theorem Xc:PS X (.Pass pos) (tS X.K F Γl Γ (some Γ) [] Gd):=PS.imp Tr fun D σ H h=>Fv h
theorem ax {x j pos'}:PS X (.Expr (.Constant (.str x) j pos) pos') (tS X.K F Γl Γ (some Γ) [] Gd):=PS.imp Xt fun D σ H h=>Fv h
theorem Xh (h1:PS X s (tS X.K F Γl Γ (some Γ2) js f)) (h2:Ce X rest (tS X.K F Γl Γ2 Γn js2 f2)):Ce X (s::rest) (tS X.K F Γl Γ Γn (js++js2) (cV f f2)):=Ce.imp (JW h1 h2) fun D σ H h=>by
 obtain ⟨g,m,P,r,R,k,res,e,q⟩:=h;refine ⟨g,m,P,r,R,_,res,e,⟨fun Γ' m' g' P' σ' H' e hk ag s' i' r'=>?_,fun d m' g' P' Pv σ' v H' hk ag=>q.rt d m' g' P' Pv σ' v H' hk (ag.mono fun _ z=>List.mem_append_left _ z),fun Γ' m' g' P' σ' H' e hk ag=>q.bk Γ' m' g' P' σ' H' e hk (ag.mono fun _ z=>List.mem_append_left _ z),fun Γ' m' g' P' σ' H' e hk ag=>q.ct Γ' m' g' P' σ' H' e hk (ag.mono fun _ z=>List.mem_append_left _ z)⟩⟩;cases e;exact ⟨g',m',P',r',R,k,res,hk,q.later s' i' ag⟩
theorem Xd (h1:PS X s (tS X.K F Γl Γ none js f)):Ce X (s::rest) (tS X.K F Γl Γ none js f):=Ce.imp (JW h1 (u:=fun _ _ _=>False) fun _ _ _ _ _ _ z=>z.elim) fun D σ H h=>by
 obtain ⟨g,m,P,r,R,k,res,e,q⟩:=h;exact ⟨g,m,P,r,R,k,res,e,(fun _ _ _ _ _ _ e=>by cases e),q.rt,q.bk,q.ct⟩
theorem av (h1:PS X s (tS X.K F Γl Γ Γn js f)):Ce X [s] (tS X.K F Γl Γ Γn js f):=Tp h1
theorem aq (hq:PE X e (tE X.K Γ F.ro F.Γr js fe)):PS X (.Return (some e) pos) (tS X.K F Γl Γ none js (Wh fe)):=PS.imp (Xr hq) fun D σ H h=>by
 obtain ⟨g,m,P,r,R,k,res,e,q⟩:=h;exact ⟨g,m,P,r,R,_,res,e,fun d m' g' P' Pv v H' hk ag s rv r1 n=>q.rt d m' g' P' Pv σ v H' hk ag s Io.refl rv r1 n⟩
theorem Xg (hq:PE X e (tE X.K Γ o Γ' js fe)) (hs:swapsWith e none pos.line X.env=pure false):PS X (.Expr e pos) (tS X.K F Γl Γ (some Γ') js (RL fe)):=PS.imp (Ts hq hs) fun D σ H h=>by
 obtain ⟨g,m,P,r,R,k,res,e,q⟩:=h;exact ⟨g,m,P,r,R,_,res,e,fun d m' g' P' Pv v H' hk ag s rv r1 n=>q.nx Γ' m' g' P' σ H' rfl hk ag (s.less fun _ q=>.inl q) Io.refl r1⟩
theorem ee (hc:PT X c (tT X.K Γ Γ2 js t)) (ha:Ce X a (tS X.K F Γl Γ2 Γn js2 f)) (hb:Ce X b (tS X.K F Γl Γ2 Γn js3 f2)):PS X (.If c a b pos) (tS X.K F Γl Γ Γn (js++(js2++js3)) (Jx t f f2)):=PS.imp (bT hc ha hb) fun D σ H h=>by
 obtain ⟨g,m,P,r,R,k,res,e,q⟩:=h;refine ⟨g,m,P,r,R,_,res,e,fun b m1 g1 P1 H1 hk ag s r1=>?_⟩;have q2:=q.later s Io.refl ag;have mo:∀ (ks:List Nat),(∀ i∈ks,i∈js2++js3)->AcS X.K F Γl g1 P1 H1 σ D Γn ks m1 k res:=fun ks hks =>
  ⟨fun Γ' m' g' P' σ' H' e hk a=>q2.nx Γ' m' g' P' σ' H' e hk (a.mono hks),fun d m' g' P' Pv σ' v H' hk a=>q2.rt d m' g' P' Pv σ' v H' hk (a.mono hks),fun Γ' m' g' P' σ' H' e hk a=>q2.bk Γ' m' g' P' σ' H' e hk (a.mono hks),fun Γ' m' g' P' σ' H' e hk a=>q2.ct Γ' m' g' P' σ' H' e hk (a.mono hks)⟩
 cases b with
 | true=>rw [if_pos rfl] at hk;show (if true=true then _ else _);rw [if_pos rfl];exact ⟨g1,m1,P1,r1,R,k,res,hk,mo js2 fun _ z=>List.mem_append_left _ z⟩
 | false=>rw [if_neg Bool.false_ne_true] at hk;show (if false=true then _ else _);rw [if_neg Bool.false_ne_true];exact ⟨g1,m1,P1,r1,R,k,res,hk,mo js3 fun _ z=>List.mem_append_right _ z⟩
def IW:Option Gm->Option Gm->Bool
 | some a,some b=>BP a b
 | _,none=>true
 | none,some _=>false
theorem Pq (h:Ce X ss (tS X.K F Γl Γ Γn js f)) (hw:IW Γn2 Γn=true):Ce X ss (tS X.K F Γl Γ Γn2 js f):=Ce.imp h fun D σ H h=>by
 obtain ⟨g,m,P,r,R,k,res,e,q⟩:=h;refine ⟨g,m,P,r,R,k,res,e,fun Γ' m' g' P' σ' H' e hk ag s' i' r'=>?_,q.rt,q.bk,q.ct⟩;subst e;cases Γn2 with
 | none=>cases hw
 | some Γ3 =>
  obtain ⟨g2,P2,s2,r2⟩:=r'.weaken (by unfold IW at hw;exact hw);exact q.nx Γ3 m' g2 P2 σ' H' rfl hk ag (s'.trans s2) i' r2
def cY (J:List Nat) (f:Es):Es:=fun R m k=>(f (DX J) m ⟨fun m'=>some (AU J m'),fun _ _=>none,fun _=>none,fun _=>none⟩).bind fun t=>k.nx (AX J m t)
theorem Ys {K:W.Frag} {D:Ends} {σ:St} {H:Hp} (hj:∀ i o,Γ'[i]?=some (some o)->i∈J\/i∉js) (hs:∀ i∈J,i∈js) (h:tS K F Γl Γ (some Γ') js (cY J f) D σ H):tS K F Γl Γ (some Γ') js f D σ H:=by
 obtain ⟨g,m,P,r,R,k,res,e,q⟩:=h;obtain ⟨t,e1,e2⟩:=bind_some' e;refine ⟨g,m,P,r,_,_,t,e1,⟨fun Γ2 m' g' P' σ' H' e hk ag s' i' r'=>?_,(fun _ _ _ _ _ _ _ _ hk=>by cases hk),(fun _ _ _ _ _ _ _ hk=>by cases hk),fun _ _ _ _ _ _ _ hk=>by cases hk⟩⟩;cases e;cases hk;exact q.nx Γ' _ g' P' σ' H' rfl e2 ((AN J m _).mono hs) s' i' (r'.join ag hj)
end
noncomputable abbrev Tg:=(R:Type)->Dv->M->(M->Option R)->Option R
def Ag (js:List Nat) (σ σ':St):Prop:=σ'.length=σ.length/\∀ i,i∉js->σ'[i]?=σ[i]?
theorem Ag.io {js io:List Nat} {σ σ':St} (h:Ag js σ σ') (d:∀ i∈io,i∉js):Io io σ σ':=fun i hi=>h.2 i (d i hi)
theorem Ag.trans {js ks:List Nat} {σ σ1 σ2:St} (a:Ag js σ σ1) (b:Ag ks σ1 σ2):Ag (js++ks) σ σ2:=⟨b.1.trans a.1,fun i h=>(b.2 i fun z=>h (List.mem_append_right _ z)).trans (a.2 i fun z=>h (List.mem_append_left _ z))⟩
theorem Ag.set {σ:St} {i:Nat} {x:Option V}:Ag [i] σ (σ.set i x):=⟨List.length_set ..,fun j h=>List.getElem?_set_ne fun z=>h (by rw [z];exact List.mem_singleton_self _)⟩
def Ls (K:W.Frag) (Γ Γ':Gm) (js:List Nat) (tg:TG) (f:Tg):Prop:=∀ (g:G) (m:M) (P:Fp) (d:Dv) (v:V) (σ:St) (H:Hp) (R:Type) (k:M->Option R) (r:R) (Q:St->Hp->Prop),Rel K g H Γ m σ P->Rep K g H 0 d v nop->f R d m k=some r ->
 (∀ m' P' σ',k m'=some r->BU js m m'->(∀ a,P' a->P a)->Ag js σ σ'->Rel K g H Γ' m' σ' P'->Q σ' H)->tg v σ H Q
def aO (i:Nat):Tg:=fun _ d m k=>k (m.set i d)
theorem TH {K:W.Frag} {Γ:Gm} {i:Nat} (hi:i < Γ.length):Ls K Γ (Γ.set i (some 0)) [i] (Cv i) (aO i):=fun g m P d v σ H R k r Q rl rv e q=>by
 obtain ⟨P2,r2,s⟩:=rl.setNew hi rv fun _ z=>z.elim
 exact q _ P2 _ e BU.set (fun a z=>(s a z).elim id False.elim) Ag.set r2
noncomputable def Zy:(J:List Nat)->List Dv->Option (DX J)
 | [],[]=>some ()
 | [_],[d]=>some d
 | _::j::J,d::ds=>(Zy (j::J) ds).bind fun t=>some (d,t)
 | _,_=>none
def Vx (J:List Nat) (d:Dv):Option (DX J):=match d with
 | .tup ds=>Zy J ds
 | .lst ds=>Zy J ds
 | _=>none
def fo (J:List Nat):Tg:=fun _ d m k=>(Vx J d).bind fun t=>k (AX J m t)
def Dk:List Nat->Lv
 | []=>ZC
 | i::J=>Qz (Cv i) (Dk J)
def Xb (Γ:Gm) (J:List Nat) (x:Option Nat):Gm:=J.foldl (fun Γ i=>Γ.set i x) Γ
theorem HZ {K:W.Frag}:∀ (J:List Nat) {Γ:Gm} {g:G} {m:M} {P:Fp} {ds:List Dv} {vs:List V} {σ:St} {H:Hp} {t:DX J} {Q:St->Hp->Prop},(∀ i∈J,i < Γ.length)->Rel K g H Γ m σ P->Reps K g H 0 ds vs nop->Zy J ds=some t ->
    (∀ P' σ',(∀ a,P' a->P a)->Ag J σ σ'->Rel K g H (Xb Γ J (some 0)) (AX J m t) σ' P'->Q σ' H)->ds.length=J.length/\Dk J vs σ H Q
  | [],Γ,g,m,P,ds,vs,σ,H,t,Q,hJ,r,rv,e,q=>by
    cases ds with
    | nil =>
      unfold Reps at rv;exact ⟨rfl,rv.1,q P σ (fun _ z=>z) ⟨rfl,fun _ _=>rfl⟩ r⟩
    | cons d ds=>cases e
  | [i],Γ,g,m,P,ds,vs,σ,H,t,Q,hJ,r,rv,e,q=>by
    match ds,e with
    | [d],e =>
      cases e;unfold Reps at rv;obtain ⟨v,vr,P1,P2,rfl,h1,h2,_,h4⟩:=rv;unfold Reps at h2;obtain ⟨P3,r3,s⟩:=r.setNew (hJ i List.mem_cons_self) h1.z fun _ z=>z.elim
      exact ⟨rfl,v,vr,rfl,h2.1,q P3 _ (fun a z=>(s a z).elim id False.elim) Ag.set r3⟩
    | [],e=>cases e
    | _::_::_,e=>cases e
  | i::j::J,Γ,g,m,P,ds,vs,σ,H,t,Q,hJ,r,rv,e,q=>by
    match ds,e with
    | [],e=>cases e
    | d::ds,e =>
      obtain ⟨t',e1,e2⟩:=bind_some' (show (Zy (j::J) ds).bind (fun t=>some (d,t))=some t from e);cases e2;unfold Reps at rv;obtain ⟨v,vr,P1,P2,rfl,h1,h2,_,h4⟩:=rv;obtain ⟨P3,r3,s⟩:=r.setNew (hJ i List.mem_cons_self) h1.z fun _ z=>z.elim
      have s':∀ a,P3 a->P a:=fun a z=>(s a z).elim id False.elim
      have:=HZ (j::J) (Q:=Q) (fun k hk=>by rw [List.length_set];exact hJ k (List.mem_cons_of_mem _ hk)) r3 h2.z e1 fun P' σ' sp ag r'=>q P' σ' (fun a z=>s' a (sp a z)) (Ag.set.trans ag) r'
      exact ⟨by simp [this.1],v,vr,rfl,this.2⟩
abbrev cL (K:W.Frag) (n:Nat) (t:Lv):TG:=fun v σ H Q=>ZA K n t v σ H Q\/ZD n t v σ H Q
theorem PD {K:W.Frag} {Γ:Gm} {J:List Nat} (hJ:∀ i∈J,i < Γ.length):Ls K Γ (Xb Γ J (some 0)) J (cL K J.length (Dk J)) (fo J):=fun g m P d v σ H R k r Q rl rv e q=>by
 obtain ⟨t,e1,e2⟩:=bind_some' e;have go:∀ {ds vs},Reps K g H 0 ds vs nop->Zy J ds=some t->ds.length=J.length/\Dk J vs σ H Q:=fun h1 h2=>HZ J hJ rl h1 h2 fun P' σ' sp ag r'=>q _ P' σ' e2 (AN J m t) sp ag r'
 cases d with
 | tup ds =>
  unfold Rep at rv;obtain ⟨a,vs,rfl,h1,h2⟩:=rv;obtain ⟨l,z⟩:=go h2 e1;exact .inl ⟨a,vs,rfl,.inl (.inl h1),by rw [<- h2.len];exact l,z⟩
 | lst ds =>
  unfold Rep at rv;obtain ⟨a,vs,P',rfl,h1,h2,_⟩:=rv;obtain ⟨l,z⟩:=go h2.z e1;exact .inr ⟨a,vs,rfl,h1.1,by rw [<- h2.len];exact l,z⟩
 | _=>cases e1
theorem PG.or {X:Cx} {e:Expr} {t u:TG} (h:PG X e t) (k:PG X e u):PG X e fun v σ H Q=>t v σ H Q\/u v σ H Q:=fun pins s σ H v w Q I r q=>q.elim (h pins s σ H v w Q I r) (k pins s σ H v w Q I r)
theorem Yz {js:List Nat} {t u:TG} (h:Oq js t) (k:Oq js u):Oq js fun v σ H Q=>t v σ H Q\/u v σ H Q:=fun x σ H Q q=>q.elim (fun q=>.inl (h x σ H Q q)) fun q=>.inr (k x σ H Q q)
theorem Dj {js:List Nat}:∀ (J:List Nat),(∀ i∈J,i∈js)->Oi js (Dk J)
 | [],_=>Qw
 | i::J,h=>Nx (h i List.mem_cons_self) (Dj J fun k hk=>h k (List.mem_cons_of_mem _ hk))
def Hi (f:Ev Dv) (tg:Tg):Es:=fun R m k=>f R m fun d m1=>tg R d m1 k.nx
section
variable {X:Cx} {F:Fr} {Γl:Option Gm} {Γ Γ' Γ2:Gm} {js js2:List Nat} {e tg:Expr} {pos pos':Pos} {fe:Ev Dv} {g:TG} {ft:Tg} {i o:Nat} {x:Str}
theorem Vr {K:W.Frag} (ht:Ls K Γ2 Γ' js2 g ft) (hio:∀ i∈F.io,i∉js2) {D:Ends} {σ:St} {H:Hp} (h:tS K F Γl Γ (some Γ') (js++js2) (Hi fe ft) D σ H):Km (tE K Γ 0 Γ2 js fe) g D σ H:=by
 obtain ⟨g0,m,P,r,R,k,res,e,q⟩:=h;refine ⟨g0,m,P,r,R,_,res,e,fun d m1 g' P' Pv v H' hk ag s rv r1 n=>ht g' m1 P' d v σ H' R k.nx res _ r1 rv.z hk fun m' P2 σ2 hk2 ag2 s2 i r2=>?_⟩;exact q.nx Γ' m' g' P2 σ2 H' rfl hk2 (ag.trans ag2) (s.less fun a z=>.inl (s2 a z)) (i.io hio) r2
theorem MI {K:W.Frag} (hi:i < Γ2.length) (hio:i∉F.io) {D:Ends} {σ:St} {H:Hp} (h:tS K F Γl Γ (some (Γ2.set i (some o))) (js++[i]) (Hi fe (aO i)) D σ H):Km (tE K Γ o Γ2 js fe) (Cv i) D σ H:=by
 obtain ⟨g0,m,P,r,R,k,res,e,q⟩:=h;refine ⟨g0,m,P,r,R,_,res,e,fun d m1 g' P' Pv v H' hk ag s rv r1 n=>?_⟩;obtain ⟨P2,r2,s2⟩:=r1.setNew hi rv fun a q z=>n a z q
 exact q.nx _ _ g' P2 _ H' rfl hk (ag.trans BU.set) (s.less fun a z=>s2 a z) (Io.set hio) r2
theorem ao (hN:X.N.Nodup) (hix:X.N[i]?=some x) (hx:Loc X.env.scope x) (hio:i∉F.io) (hi:i < Γ2.length) (he:PE X e (tE X.K Γ o Γ2 js fe)) (hs:swapsWith e (some (.Name x pos')) pos.line X.env=pure false) (hf:X.fn x=true\/X.env.scope.names.lookup x=some .local) :
    PS X (.Assign [.Name x pos'] e pos) (tS X.K F Γl Γ (some (Γ2.set i (some o))) (js++[i]) (Hi fe (aO i))):=PS.imp (Xq hN hix hx he hs hf) fun _ _ _ h=>MI hi hio h
theorem ay (he:PE X e (tE X.K Γ 0 Γ2 js fe)) (hg:PG X tg g) (ht:Ls X.K Γ2 Γ' js2 g ft) (hio:∀ i∈F.io,i∉js2) (hs:swapsWithSole [tg] e pos.line X.env=pure false) (hw:swappedStores [tg] e X.env=pure none)
    (h1:(assignEach [tg] X.env).map (·.2)=[assign tg X.env]):PS X (.Assign [tg] e pos) (tS X.K F Γl Γ (some Γ') (js++js2) (Hi fe ft)):=PS.imp (QI he hg hs hw h1) fun _ _ _ h=>Vr ht hio h
end
def Ka (g:G) (H:Hp) (g2:G) (H2:Hp):Prop:=∃ P P',Step g P H g2 P' H2/\FpOk g H P
def Yl (K:W.Frag) (J:It) (ds:List Dv) (g:G) (H:Hp):Prop:=∀ g2 H2,Ka g H g2 H2 ->
 (∀ i d,ds[i]?=some d->J.go i H2/\∀ x H3,J.yld i H2 x H3->AV K g2 H2 0 d x H3)/\∀ i,ds.length<=i->J.stop i H2
def tI (K:W.Frag) (Γ Γ':Gm) (js:List Nat) (f:Ev (List Dv)):TI:=fun σ H Q=>∃ g m P,Rel K g H Γ m σ P/\∃ (R:Type) (k:List Dv->M->Option R) (r:R),f R m k=some r /\
 ∀ ds m' g' P' H' J,k ds m'=some r->BU js m m'->Step g P H g' P' H'->Rel K g' H' Γ' m' σ P'->Yl K J ds g' H'->Q J H'
theorem PI.imp {X:Cx} {tg e:Expr} {t t':TI} (h:PI X tg e t) (k:∀ σ H R,t' σ H R->t σ H R):PI X tg e t':=fun pins s σ H R I q=>h pins s σ H R I (k σ H R q)
theorem AV.old {K:W.Frag} {g:G} {H:Hp} {o:Nat} {d:Dv} {v:V} (h:Rep K g H o d v nop):AV K g H o d v H:=⟨fun _ _ q=>q,nop,h,fun _ z=>z.elim⟩
theorem Ka.rep {K:W.Frag} {g g2:G} {H H2:Hp} {d:Dv} {v:V} (s:Ka g H g2 H2) (h:Rep K g H 0 d v nop):Rep K g2 H2 0 d v nop:=by
 obtain ⟨P,P',st,ok⟩:=s;exact h.held st ok fun _ z=>z.elim
section
variable {τ γ ρ:Type}
inductive Lp (τ γ ρ:Type) where
 | go (c:γ) | bk (c:γ) | rt (d:τ) (r:ρ)
inductive Rs (τ γ ρ:Type) where
 | go (c:γ) | rt (d:τ) (r:ρ)
noncomputable def Rs.el {δ:Type} (x:Rs τ γ ρ) (f:γ->δ) (h:τ->ρ->δ):δ:=match x with | .go c=>f c | .rt d r=>h d r
noncomputable def Ap (g:Dv->γ->Option γ):List Dv->γ->Option γ
 | [],c=>some c
 | x::xs,c=>(g x c).bind fun c1=>Ap g xs c1
noncomputable def Jt (g:Dv->γ->Option (Lp τ γ ρ)):List Dv->γ->Option (Rs τ γ ρ)
 | [],c=>some (.go c)
 | x::xs,c=>(g x c).bind fun l=>match l with
  | .go c1=>Jt g xs c1
  | .bk c1=>some (.go c1)
  | .rt d r=>some (.rt d r)
noncomputable def Vw (t:γ->Option Bool) (g:γ->Option γ):Nat->γ->Option γ
 | 0,_=>none
 | n+1,c=>(t c).bind fun b=>if b=true then (g c).bind (Vw t g n) else some c
noncomputable def eM (t:γ->Option Bool) (g:γ->Option (Lp τ γ ρ)):Nat->γ->Option (Rs τ γ ρ)
 | 0,_=>none
 | n+1,c=>(t c).bind fun b=>if b=true then (g c).bind (fun l=>match l with
  | .go c1=>eM t g n c1
  | .bk c1=>some (.go c1)
  | .rt d r=>some (.rt d r)) else some (.go c)
end
def kC (J:List Nat):Kt (DX J):=⟨fun m'=>some (AU J m'),fun _ _=>none,fun _=>none,fun m'=>some (AU J m')⟩
def kE (J Jr:List Nat):Kt (Lp Dv (DX J) (DX Jr)):=⟨fun m'=>some (.go (AU J m')),fun d m'=>some (.rt d (AU Jr m')),fun m'=>some (.bk (AU J m')),fun m'=>some (.go (AU J m'))⟩
def RK (src:Ev (List Dv)) (tg:Tg) (J:List Nat) (b:Es):Es:=fun R m k=>src R m fun ds m1 =>
 (Ap (fun d t=>tg (DX J) d (AX J m1 t) fun m2=>b (DX J) m2 (kC J)) ds (AU J m1)).bind fun t=>k.nx (AX J m1 t)
def RJ (src:Ev (List Dv)) (tg:Tg) (J Jr:List Nat) (b:Es):Es:=fun R m k=>src R m fun ds m1 =>
 (Jt (fun d t=>tg (Lp Dv (DX J) (DX Jr)) d (AX J m1 t) fun m2=>b (Lp Dv (DX J) (DX Jr)) m2 (kE J Jr)) ds (AU J m1)).bind fun x=>x.el (fun t=>k.nx (AX J m1 t)) fun d t=>k.rt d (AX Jr m1 t)
theorem LQ {J:List Nat} {Γ:Gm} {K:W.Frag} {g:G} {H:Hp} {m:M} {σ:St} {P:Fp} (r:Rel K g H Γ m σ P):Rel K g H Γ (AX J m (AU J m)) σ P:=r.join (js:=[]) BU.refl fun _ _ _=>.inr (by simp)
theorem Mc {K:W.Frag} {F:Fr} {Γl0:Option Gm} {Γ Γt:Gm} {Γo:Option Gm} {jt jb:List Nat} {g:TG} {ft:Tg} {b:Es} {J Jr:List Nat} (ht:Ls K Γ Γt jt g ft) (hio:∀ i∈F.io,i∉jt) (hw:IW (some Γ) Γo=true)
    (hJ:J=Au Γ (jt++jb)) (hJr:Jr=Au F.Γr (jt++jb)) {ds:List Dv} {m1:M} {D:Ends} {σ:St} {H1:Hp} {g1:G} {P1:Fp} {I:It} {R:Type} {k:Kt R} {res:R}
    (r1:Rel K g1 H1 Γ m1 σ P1) (yl:Yl K I ds g1 H1) (run:List Dv->DX J->Prop) (h0:run ds (AU J m1)) (hn:∀ t,run [] t->k.nx (AX J m1 t)=some res)
    (hc:∀ d ds t,run (d::ds) t->∃ (B:Type) (κ:Kt B) (r:B),ft B d (AX J m1 t) (fun m2=>b B m2 κ)=some r/\(∀ m',κ.nx m'=some r->run ds (AU J m'))/\(∀ m',κ.ct m'=some r->run ds (AU J m')) /\
      (∀ m',κ.bk m'=some r->k.nx (AX J m1 (AU J m'))=some res)/\∀ d m',κ.rt d m'=some r->k.rt d (AX Jr m1 (AU Jr m'))=some res)
    (q:AcS K F Γl0 g1 P1 H1 σ D (some Γ) (jt++jb) m1 k res) :
    ∃ W:Nat->Nat->St->Hp->Prop,(∃ m,W 0 m σ H1)/\∀ i m σ H,W i m σ H ->
      (I.stop i H/\D.nx σ H)\/(I.go i H/\∃ N:St->Hp->Prop,(∀ σ' H',N σ' H'->∃ m',m' < m/\W (i+1) m' σ' H')/\∀ x H',I.yld i H x H'->g x σ H' fun σ2 H2=>tS K F (some Γ) Γt Γo jb b { D with nx:=N,ct:=N,bk:=D.nx } σ2 H2):=by
  have sub:∀ i∈J,i∈jt++jb:=fun i h=>As (hJ▸h)
  have subr:∀ i∈Jr,i∈jt++jb:=fun i h=>As (hJr▸h)
  refine ⟨fun i j σ' H'=>j=ds.length - i/\i<=ds.length/\∃ g2 t P2,Step g1 P1 H1 g2 P2 H'/\Io F.io σ σ'/\Rel K g2 H' Γ (AX J m1 t) σ' P2/\run (ds.drop i) t,⟨ds.length,by simp,Nat.zero_le _,g1,AU J m1,P1,Step.refl,Io.refl,LQ r1,by simpa using h0⟩,?_⟩;rintro i j σ2 H2 ⟨rfl,hi,g2,t,P2,s2,i2,r2,e2⟩;have st:Ka g1 H1 g2 H2:=⟨P1,P2,s2,r1.fpOk⟩
  by_cases hlt:i < ds.length
  · rw [List.drop_eq_getElem_cons hlt] at e2;obtain ⟨B,κ,rB,e3,knx,kct,kbk,krt⟩:=hc _ _ _ e2;obtain ⟨go,yy⟩:=(yl g2 H2 st).1 i ds[i] (List.getElem?_eq_getElem hlt);refine .inr ⟨go,fun σ' H'=>∃ g5 P5 m',Step g1 P1 H1 g5 P5 H'/\Io F.io σ σ'/\Rel K g5 H' Γ m' σ' P5/\BU (jt++jb) m1 m'/\run (ds.drop (i+1)) (AU J m'),?_,fun x H3 hy=>?_⟩
    · rintro σ' H' ⟨g5,P5,m',s5,i5,r5,ag,hr⟩;exact ⟨ds.length - (i+1),by omega,rfl,hlt,g5,AU J m',P5,s5,i5,r5.join ag fun i o h=>hJ▸BH h,hr⟩
    · obtain ⟨Pv,s3,h3,r3,n3⟩:=AV.go s2 r2 (yy x H3 hy);refine ht g2 _ P2 ds[i] x σ2 H3 B _ rB _ r3 h3.z e3 fun m2 P' σ' hk ag sp ip r'=>?_
      have s4:Step g1 P1 H1 g2 P' H3:=s3.less fun a z=>.inl (sp a z)
      have i4:=i2.trans (ip.io hio);have a4:BU (jt++jb) m1 m2:=((AN J m1 t).mono sub).trans ag |>.mono fun i z=>(List.mem_append.mp z).elim id fun z=>List.mem_append_left _ z
      have a5:∀ {m'},BU jb m2 m'->BU (jt++jb) m1 m':=fun h=>(a4.trans h).mono fun i z=>(List.mem_append.mp z).elim id fun z=>List.mem_append_right _ z
      refine ⟨g2,m2,P',r',B,κ,rB,hk,⟨fun Γ' m' g' P'' σ'' H' e hk ag' s' i' rr=>?_,fun d m' g' P'' Pv σ'' v H' hk ag' s' i' rv rr n=>?_,fun Γ' m' g' P'' σ'' H' e hk ag' s' i' rr=>?_,fun Γ' m' g' P'' σ'' H' e hk ag' s' i' rr=>?_⟩⟩
      · subst e;obtain ⟨g6,P6,s6,r6⟩:=rr.weaken (by unfold IW at hw;exact hw);exact ⟨g6,P6,m',(s4.trans s').trans s6,i4.trans i',r6,a5 ag',knx m' hk⟩
      · exact q.rt d _ g' P'' Pv σ'' v H' (krt d m' hk) ((AN Jr m1 _).mono subr) (s4.trans s') (i4.trans i') rv (rr.join (a5 ag') fun i o h=>hJr▸BH h) n
      · cases e;exact q.nx Γ _ g' P'' σ'' H' rfl (kbk m' hk) ((AN J m1 _).mono sub) (s4.trans s') (i4.trans i') (rr.join (a5 ag') fun i o h=>hJ▸BH h)
      · cases e;exact ⟨g',P'',m',s4.trans s',i4.trans i',rr,a5 ag',kct m' hk⟩
  · have ei:i=ds.length:=by omega
    subst ei;rw [List.drop_length] at e2;exact .inl ⟨(yl g2 H2 st).2 _ (Nat.le_refl _),q.nx Γ _ g2 P2 σ2 H2 rfl (hn t e2) ((AN J m1 _).mono sub) s2 i2 r2⟩
section
variable {X:Cx} {F:Fr} {Γl0:Option Gm} {Γ Γ1 Γ2 Γt:Gm} {Γo:Option Gm} {js jt jb J Jr:List Nat} {tg iter:Expr} {body:List Stmt} {src:Ev (List Dv)} {g:TG} {ft:Tg} {b:Es} {pos:Pos}
theorem Ka.pre {g g2 g3:G} {H H3:Hp} {P P2:Fp} (s:Step g P H g2 P2 H) (ok:FpOk g H P) (st:Ka g2 H g3 H3):Ka g H g3 H3:=by
 obtain ⟨P3,P3',s3,ok3⟩:=st;exact ⟨fun a=>P a\/P3 a,P3',(s.frame (R:=P3)).trans (s3.sub (fun _ z=>.inr z) fun _ z=>z),ok.or fun a z=>⟨(ok3 a z).1,fun w=>(ok3 a z).2 (s.zm a w)⟩⟩
theorem Sy {K:W.Frag} {σ:St} {H:Hp} {Q:It->Hp->Prop} (hw:BP Γ2 Γ1=true) (h:tI K Γ Γ2 js src σ H Q):tI K Γ Γ1 js src σ H Q:=by
 obtain ⟨g,m,P,r,R,k,res,e,q⟩:=h;refine ⟨g,m,P,r,R,k,res,e,fun ds m' g' P' H' J hk ag s r1 yl=>?_⟩;obtain ⟨g2,P2,s2,r2⟩:=r1.weaken hw;exact q ds m' g2 P2 H' J hk ag (s.trans s2) r2 fun g3 H3 st=>yl g3 H3 (st.pre s2 r1.fpOk)
theorem Xf (hp:PassesOwn (model X.prog X.w) X.A X.env X.xe) (hc:X.calm=true) (hi:PI X tg iter (tI X.K Γ Γ1 js src)) (hg:PG X tg g) (ht:Ls X.K Γ1 Γt jt g ft) (hio:∀ i∈F.io,i∉jt) (hb:Ce X body (tS X.K F (some Γ1) Γt Γo jb b)) (hw:IW (some Γ1) Γo=true) (hJ:J=Au Γ1 (jt++jb))
    (hs:∀ x,foldedSetIterable iter X.env x=pure x):PS X (.For tg iter body [] pos) (tS X.K F Γl0 Γ (some Γ1) (js++(jt++jb)) (RK src ft J b)):=PS.imp (QF hp hc hi hg hb hs) fun D σ H h=>by
  obtain ⟨g0,m,P,r,R,k,res,e,q⟩:=h;refine ⟨g0,m,P,r,R,_,res,e,fun ds m1 g1 P1 H1 I hk ag s r1 yl=>?_⟩;obtain ⟨t,e1,e2⟩:=bind_some' hk;refine Mc (Jr:=Au F.Γr (jt++jb)) ht hio hw hJ rfl r1 yl (fun ds t0=>Ap _ ds t0=some t) e1 (fun t0 h=>?_) (fun d ds t0 h=>?_) (q.later s Io.refl ag)
  · cases h;exact e2
  · obtain ⟨t1,h1,h2⟩:=bind_some' h;refine ⟨DX J,kC J,t1,h1,fun m' hk=>?_,fun m' hk=>?_,(fun m' hk=>by cases hk),fun d m' hk=>by cases hk⟩
    · cases hk;exact h2
    · cases hk;exact h2
theorem Xe (hp:PassesOwn (model X.prog X.w) X.A X.env X.xe) (hc:X.calm=true) (hi:PI X tg iter (tI X.K Γ Γ1 js src)) (hg:PG X tg g) (ht:Ls X.K Γ1 Γt jt g ft) (hio:∀ i∈F.io,i∉jt) (hb:Ce X body (tS X.K F (some Γ1) Γt Γo jb b)) (hw:IW (some Γ1) Γo=true) (hJ:J=Au Γ1 (jt++jb)) (hJr:Jr=Au F.Γr (jt++jb))
    (hs:∀ x,foldedSetIterable iter X.env x=pure x):PS X (.For tg iter body [] pos) (tS X.K F Γl0 Γ (some Γ1) (js++(jt++jb)) (RJ src ft J Jr b)):=PS.imp (QF hp hc hi hg hb hs) fun D σ H h=>by
  obtain ⟨g0,m,P,r,R,k,res,e,q⟩:=h;refine ⟨g0,m,P,r,R,_,res,e,fun ds m1 g1 P1 H1 I hk ag s r1 yl=>?_⟩;obtain ⟨x,e1,e2⟩:=bind_some' hk;refine Mc ht hio hw hJ hJr r1 yl (fun ds t0=>Jt _ ds t0=some x) e1 (fun t0 h=>?_) (fun d ds t0 h=>?_) (q.later s Io.refl ag)
  · cases h;exact e2
  · obtain ⟨l,h1,h2⟩:=bind_some' h;refine ⟨_,kE J Jr,l,h1,fun m' hk=>?_,fun m' hk=>?_,fun m' hk=>?_,fun d m' hk=>?_⟩
    · cases hk;exact h2
    · cases hk;exact h2
    · cases hk;cases h2;exact e2
    · cases hk;cases h2;exact e2
end
def We (n:Nat) (c:Ev Bool) (J:List Nat) (b:Es):Es:=fun R m k =>
 (Vw (fun t=>c Bool (AX J m t) fun b _=>some b) (fun t=>b (DX J) (AX J m t) (kC J)) n (AU J m)).bind fun t=>k.nx (AX J m t)
def Wd (n:Nat) (c:Ev Bool) (J Jr:List Nat) (b:Es):Es:=fun R m k =>
 (eM (fun t=>c Bool (AX J m t) fun b _=>some b) (fun t=>b (Lp Dv (DX J) (DX Jr)) (AX J m t) (kE J Jr)) n (AU J m)).bind fun x=>x.el (fun t=>k.nx (AX J m t)) fun d t=>k.rt d (AX Jr m t)
theorem Ou {K:W.Frag} {F:Fr} {Γl0:Option Gm} {Γ Γc:Gm} {Γo:Option Gm} {jb:List Nat} {c:Ev Bool} {b:Es} {J Jr:List Nat} (hwc:BP Γ Γc=true) (hw:IW (some Γ) Γo=true)
    (hJ:J=Au Γ jb) (hJr:Jr=Au F.Γr jb) {m1:M} {D:Ends} {σ:St} {H1:Hp} {g1:G} {P1:Fp} {R:Type} {k:Kt R} {res:R}
    (r1:Rel K g1 H1 Γ m1 σ P1) (run:Nat->DX J->Prop) {n:Nat} (h0:run n (AU J m1))
    (hc:∀ n t,run n t->∃ bb,c Bool (AX J m1 t) (fun b _=>some b)=some bb/\if bb=true then ∃ n',n' < n/\∃ (B:Type) (κ:Kt B) (r:B),b B (AX J m1 t) κ=some r/\(∀ m',κ.nx m'=some r->run n' (AU J m'))/\(∀ m',κ.ct m'=some r->run n' (AU J m')) /\
      (∀ m',κ.bk m'=some r->k.nx (AX J m1 (AU J m'))=some res)/\(∀ d m',κ.rt d m'=some r->k.rt d (AX Jr m1 (AU Jr m'))=some res) else k.nx (AX J m1 t)=some res)
    (q:AcS K F Γl0 g1 P1 H1 σ D (some Γ) jb m1 k res):PF (tT K Γ Γc [] c) (tS K F (some Γ) Γ Γo jb b) D σ H1:=by
  have sub:∀ i∈J,i∈jb:=fun i h=>As (hJ▸h)
  have subr:∀ i∈Jr,i∈jb:=fun i h=>As (hJr▸h)
  refine ⟨fun n σ' H'=>∃ g2 t P2,Step g1 P1 H1 g2 P2 H'/\Io F.io σ σ'/\Rel K g2 H' Γ (AX J m1 t) σ' P2/\run n t,⟨n,g1,AU J m1,P1,Step.refl,Io.refl,LQ r1,h0⟩,?_⟩;rintro n' σ2 H2 ⟨g2,t,P2,s2,i2,r2,e2⟩;obtain ⟨bb,e3,e4⟩:=hc n' t e2;refine ⟨g2,_,P2,r2,Bool,_,bb,e3,fun b' m' g3 P3 H3 hk ag s3 r3=>?_⟩;cases hk;obtain ⟨g4,P4,s4,r4⟩:=r3.weaken hwc;have r5:Rel K g4 H3 Γ (AX J m1 t) σ2 P4:=r4.agree ag.1.symm fun i o _=>(ag.2 i (by simp)).symm
  have s5:=(s2.trans s3).trans s4;cases bb with
  | false=>rw [if_neg Bool.false_ne_true] at e4 ⊢;exact q.nx Γ _ g4 P4 σ2 H3 rfl e4 ((AN J m1 _).mono sub) s5 i2 r5
  | true =>
    rw [if_pos rfl] at e4 ⊢;obtain ⟨n2,hn,B,κ,rB,eb,knx,kct,kbk,krt⟩:=e4;have a5:∀ {m'},BU jb (AX J m1 t) m'->BU jb m1 m':=fun h=>(((AN J m1 t).mono sub).trans h).mono fun i z=>(List.mem_append.mp z).elim id id
    refine ⟨fun σ' H'=>∃ g5 P5 m',Step g1 P1 H1 g5 P5 H'/\Io F.io σ σ'/\Rel K g5 H' Γ m' σ' P5/\BU jb m1 m'/\run n2 (AU J m'),?_,g4,_,P4,r5,B,κ,rB,eb,⟨fun Γ' m' g' P'' σ'' H' e hk ag' s' i' rr=>?_,fun d m' g' P'' Pv σ'' v H' hk ag' s' i' rv rr n=>?_,fun Γ' m' g' P'' σ'' H' e hk ag' s' i' rr=>?_,fun Γ' m' g' P'' σ'' H' e hk ag' s' i' rr=>?_⟩⟩
    · rintro σ' H' ⟨g6,P6,m',s6,i6,r6,ag6,hr⟩;exact ⟨n2,hn,g6,AU J m',P6,s6,i6,r6.join ag6 fun i o h=>hJ▸BH h,hr⟩
    · subst e;obtain ⟨g6,P6,s6,r6⟩:=rr.weaken (by unfold IW at hw;exact hw);exact ⟨g6,P6,m',(s5.trans s').trans s6,i2.trans i',r6,a5 ag',knx m' hk⟩
    · exact q.rt d _ g' P'' Pv σ'' v H' (krt d m' hk) ((AN Jr m1 _).mono subr) (s5.trans s') (i2.trans i') rv (rr.join (a5 ag') fun i o h=>hJr▸BH h) n
    · cases e;exact q.nx Γ _ g' P'' σ'' H' rfl (kbk m' hk) ((AN J m1 _).mono sub) (s5.trans s') (i2.trans i') (rr.join (a5 ag') fun i o h=>hJ▸BH h)
    · cases e;exact ⟨g',P'',m',s5.trans s',i2.trans i',rr,a5 ag',kct m' hk⟩
section
variable {X:Cx} {F:Fr} {Γl0:Option Gm} {Γ Γc:Gm} {Γo:Option Gm} {jb J Jr:List Nat} {c:Expr} {body:List Stmt} {t:Ev Bool} {b:Es} {pos:Pos}
theorem ak (n:Nat) (hp:PassesOwn (model X.prog X.w) X.A X.env X.xe) (hc:PT X c (tT X.K Γ Γc [] t)) (hb:Ce X body (tS X.K F (some Γ) Γ Γo jb b)) (hwc:BP Γ Γc=true) (hw:IW (some Γ) Γo=true) (hJ:J=Au Γ jb) :
    PS X (.While c body [] pos) (tS X.K F Γl0 Γ (some Γ) jb (We n t J b)):=PS.imp (JX hp hc hb) fun D σ H h=>by
  obtain ⟨g0,m,P,r,R,k,res,e,q⟩:=h;obtain ⟨t',e1,e2⟩:=bind_some' e;refine Ou (Jr:=Au F.Γr jb) hwc hw hJ rfl r (fun n t0=>Vw _ _ n t0=some t') e1 (fun n t0 h=>?_) q;cases n with
  | zero=>cases h
  | succ n =>
    obtain ⟨bb,h1,h2⟩:=bind_some' h;refine ⟨bb,h1,?_⟩;cases bb with
    | false=>rw [if_neg Bool.false_ne_true] at h2 ⊢;cases h2;exact e2
    | true =>
      rw [if_pos rfl] at h2 ⊢;obtain ⟨t1,h3,h4⟩:=bind_some' h2;refine ⟨n,Nat.lt_succ_self n,DX J,kC J,t1,h3,fun m' hk=>?_,fun m' hk=>?_,(fun m' hk=>by cases hk),fun d m' hk=>by cases hk⟩
      · cases hk;exact h4
      · cases hk;exact h4
theorem aj (n:Nat) (hp:PassesOwn (model X.prog X.w) X.A X.env X.xe) (hc:PT X c (tT X.K Γ Γc [] t)) (hb:Ce X body (tS X.K F (some Γ) Γ Γo jb b)) (hwc:BP Γ Γc=true) (hw:IW (some Γ) Γo=true) (hJ:J=Au Γ jb) (hJr:Jr=Au F.Γr jb) :
    PS X (.While c body [] pos) (tS X.K F Γl0 Γ (some Γ) jb (Wd n t J Jr b)):=PS.imp (JX hp hc hb) fun D σ H h=>by
  obtain ⟨g0,m,P,r,R,k,res,e,q⟩:=h;obtain ⟨x,e1,e2⟩:=bind_some' e;refine Ou hwc hw hJ hJr r (fun n t0=>eM _ _ n t0=some x) e1 (fun n t0 h=>?_) q;cases n with
  | zero=>cases h
  | succ n =>
    obtain ⟨bb,h1,h2⟩:=bind_some' h;refine ⟨bb,h1,?_⟩;cases bb with
    | false=>rw [if_neg Bool.false_ne_true] at h2 ⊢;cases h2;exact e2
    | true =>
      rw [if_pos rfl] at h2 ⊢;obtain ⟨l,h3,h4⟩:=bind_some' h2;refine ⟨n,Nat.lt_succ_self n,_,kE J Jr,l,h3,fun m' hk=>?_,fun m' hk=>?_,fun m' hk=>?_,fun d m' hk=>?_⟩
      · cases hk;exact h4
      · cases hk;exact h4
      · cases hk;cases h4;exact e2
      · cases hk;cases h4;exact e2
end
end R
namespace Q
open PySem L2
inductive Dt where
 | non | bl (b:Bool) | int (i:Int) | str (x:List Nat)
 | tup (xs:List Dt) | lst (o:Bool) (xs:List Dt) | dic (o:Bool) (kvs:List (Dt×Dt)) | ref (k:Nat) | scr (ns:List Int) | ty (n:String) | mtp (ls:List (List Nat)) | dti (o:Bool) (kvs:List (List Int×Int))
 deriving Inhabited
structure G where
 Z:Addr->Prop
 μ:List Addr
noncomputable abbrev Fp:=Addr->Prop
def Disj (P Q:Fp):Prop:=∀ a,P a->Q a->False
def Lk (g:G) (H:Hp):Bool->Addr->List V->Prop
 | true,a,vs=>H a=some (.lst vs)/\¬ g.Z a
 | false,a,vs=>H a=some (.lst vs)/\g.Z a
def Scr (K:W.Frag) (H:Hp) (a:Addr) (ns:List Int):Prop:=(∃ o,H a=some (.frz o (.lst (ns.map V.int)))) \/
    ∃ (o:Obj) (its:Array Value) (n:Nat),K.lookup a=some o/\o.cls=.type "list" /\ o.dict=none/\o.data=.seq its n/\its.size<=sizeLine/\AE (ns.map V.int) its.toList
def Mtp (K:W.Frag) (a:Addr) (ls:List (List Nat)):Prop:=∃ (o:Obj) (its:Array Value) (n:Nat),K.lookup a=some o/\o.cls=.type "tuple" /\ o.data=.seq its n/\its.size<=sizeLine/\AE (ls.map fun l=>V.str (tx l)) its.toList
def encD (kvs:List (List Int×Int)):List (List Av×V):=kvs.map fun p=>(p.1.map Sum.inl,V.int p.2)
mutual
noncomputable def Rep (K:W.Frag) (g:G) (H:Hp):Dt->V->Fp->Prop
 | .non,v,P=>v=.non/\∀ a,¬ P a
 | .bl b,v,P=>v=.bl b/\∀ a,¬ P a
 | .int i,v,P=>v=.int i/\∀ a,¬ P a
 | .str l,v,P=>v=.str (tx l)/\∀ a,¬ P a
 | .tup ds,v,P=>∃ a vs,v=.ref a/\H a=some (.tup vs)/\Reps K g H ds vs P
 | .lst o ds,v,P=>∃ a vs P',v=.ref a/\Lk g H o a vs/\Reps K g H ds vs P'/\¬ P' a/\(o=false->∀ b,¬ P' b)/\∀ b,P b↔(o=true/\b=a)\/P' b
 | .dic _ _,_,_=>False
 | .ref k,v,P=>(∃ a,g.μ[k]?=some a/\v=.ref a)/\∀ a,¬ P a
 | .scr ns,v,P=>(∃ a,v=.ref a/\Scr K H a ns)/\∀ a,¬ P a
 | .ty n,v,P=>v=.ty n/\∀ a,¬ P a
 | .mtp ls,v,P=>(∃ a,v=.ref a/\Mtp K a ls)/\∀ a,¬ P a
 | .dti o kvs,v,P=>∃ a,v=.ref a/\H a=some (.dT (encD kvs))/\(o=true->¬ g.Z a)/\(o=false->g.Z a)/\∀ b,P b↔(o=true/\b=a)
noncomputable def Reps (K:W.Frag) (g:G) (H:Hp):List Dt->List V->Fp->Prop
 | [],vs,P=>vs=[]/\∀ a,¬ P a
 | d::ds,vs,P=>∃ v r P1 P2,vs=v::r/\Rep K g H d v P1/\Reps K g H ds r P2/\Disj P1 P2/\∀ a,P a↔P1 a\/P2 a
end
mutual
noncomputable def Dt.cp:Dt->Bool
 | .tup ds=>cps ds
 | .lst o ds=>!o && cps ds
 | .dti o _=>!o
 | .dic _ _=>false
 | _=>true
noncomputable def cps:List Dt->Bool
 | []=>true
 | d::ds=>d.cp && cps ds
end
section
variable {K:W.Frag} {g g':G} {H H':Hp}
def nop:Fp:=fun _=>False
theorem nop_iff {R:Fp} (h:∀ a,¬ R a):R=nop:=funext fun a=>propext ⟨fun z=>(h a z).elim,fun z=>z.elim⟩
theorem Reps.nil:Reps K g H [] [] nop:=by unfold Reps;exact ⟨rfl,fun _ z=>z⟩
end
structure Ob where
 c:Nat
 fs:List (Str×Dt)
structure M where
 ρ:List (Option Dt)
 S:List Ob
noncomputable abbrev Ev (α:Type):=M->Option (α×M)
section
end
section
end
inductive Om where
 | ev (f:Ev Dt)
 | rf (i:Nat)
def RA (K:W.Frag) (g:G) (H:Hp):List Dt->List V->Prop
 | [],vs=>vs=[]
 | d::ds,vs=>∃ v r P,vs=v::r/\Rep K g H d v P/\RA K g H ds r
noncomputable abbrev Pr:=List Dt->Option Dt
section
end
section
variable {X:Cx} {a b c e:Expr} {es:List Expr} {pos:Pos} {oa ob oc:Om} {os:List Om} {f fa fb:Ev Dt} {p:Pr}
def evd:List Om->Bool
 | []=>true
 | .ev _::os=>evd os
 | .rf _::_=>false
end
def gG (f g:Ev Bool) (m:M):Option (Bool×M):=do
 let (b,m1) <- f m
 if b then g m1 else some (false,m1)
def evOr (f g:Ev Bool) (m:M):Option (Bool×M):=do
 let (b,m1) <- f m
 if b then some (true,m1) else g m1
section
variable {K:W.Frag} {σ:St} {H:Hp}
theorem rep_bl {g:G} {b:Bool} {v:V} {P:Fp} (h:Rep K g H (.bl b) v P):v=.bl b:=by unfold Rep at h;exact h.1
theorem rep_int {g:G} {b:Int} {v:V} {P:Fp} (h:Rep K g H (.int b) v P):v=.int b:=by unfold Rep at h;exact h.1
theorem rep_str {g:G} {b:List Nat} {v:V} {P:Fp} (h:Rep K g H (.str b) v P):v=.str (tx b):=by unfold Rep at h;exact h.1
theorem rep_non {g:G} {v:V} {P:Fp} (h:Rep K g H .non v P):v=.non:=by unfold Rep at h;exact h.1
end
section
end
inductive Fl where
 | nx | ct | bk | rt (d:Dt)
noncomputable abbrev Es:=M->Option (Fl×M)
section
end
noncomputable abbrev Tg:=Dt->M->Option M
section
end
section
end
def items:Dt->Option (List Dt)
 | .tup ds=>bif cps ds then some ds else none
 | .lst _ ds=>bif cps ds then some ds else none
 | .scr ns=>some (ns.map .int)
 | _=>none
section
end
section
variable {X:Cx} {tg e a b:Expr} {f:Ev Dt} {oa ob:Om} {p pos:Pos}
noncomputable def small (i:Int):Bool:=-1000000000<=i && i<=1000000000
end
section
end
def Bk (K:W.Frag) (g:G) (H:Hp) (vs:List V):List Nat->List Dt->Fp->Prop
 | [],bs,P=>bs=[]/\∀ a,¬ P a
 | i::io,bs,P=>∃ b br v P1 P2,bs=b::br/\vs[i]?=some v/\Rep K g H b v P1/\Bk K g H vs io br P2/\Disj P1 P2/\∀ a,P a↔P1 a\/P2 a
section
end
section
end
section
end
section
end
section
end
section
variable {K:W.Frag} {g:G} {H:Hp}
noncomputable def big (i:Int):Bool:=decide (-(2 ^ 64) < i) && decide (i < 2 ^ 64)
theorem atI_map {α β:Type} {f:α->β} {xs:List α} {i:Int}:DV (xs.map f) i=(DV xs i).map f:=by
 unfold DV;rw [List.length_map];cases Jo xs.length i with
 | none=>rfl
 | some j=>show (xs.map f)[j]?=_;rw [List.getElem?_map];rfl
def cutA {α:Type} (xs:List α) (lo hi:Option Int):List α:=(xs.drop (HT.sIx xs.length 0 lo)).take (HT.sIx xs.length xs.length hi - HT.sIx xs.length 0 lo)
theorem map_cut {α β:Type} (f:α->β) (xs:List α) (lo hi:Option Int):(cutA xs lo hi).map f=cutA (xs.map f) lo hi:=by
 unfold cutA;rw [List.map_take,List.map_drop,List.length_map]
end
section
end
end Q
namespace L3
open PySem PySem.Spec PyProof.Rows PySem.SeqAt L2
abbrev St:=L2.St
inductive D where
 | fl (v:V)
 | tup (ds:List D)
 | lst (ds:List D)
mutual
noncomputable def eqD:D->D->Bool
 | .fl a,.fl b=>eqV a b
 | .tup a,.tup b=>eqDs a b
 | .lst a,.lst b=>eqDs a b
 | _,_=>false
noncomputable def eqDs:List D->List D->Bool
 | [],[]=>true
 | x::xs,y::ys=>eqD x y && eqDs xs ys
 | _,_=>false
end
mutual
noncomputable def D.dep:D->Nat
 | .fl _=>0
 | .tup ds=>depL ds+1
 | .lst ds=>depL ds+1
noncomputable def depL:List D->Nat
 | []=>0
 | d::ds=>max d.dep (depL ds)
end
mutual
noncomputable def Is (K:W.Frag) (H:Hp):V->D->Prop
 | x,.fl v=>x=v/\EL v=true
 | x,.tup ds=>∃ a xs,x=.ref a/\DY K H a xs/\IsL K H xs ds
 | x,.lst ds=>∃ a xs,x=.ref a/\CP K H a xs/\IsL K H xs ds
noncomputable def IsL (K:W.Frag) (H:Hp):List V->List D->Prop
 | [],[]=>True
 | x::xs,d::ds=>Is K H x d/\IsL K H xs ds
 | _,_=>False
end
theorem IsL.inv {K:W.Frag} {H:Hp} {x:V} {xs:List V} {es:List D} (h:IsL K H (x::xs) es):∃ d ds,es=d::ds/\Is K H x d/\IsL K H xs ds:=by
 cases es with
 | nil=>unfold IsL at h;exact h.elim
 | cons d ds=>unfold IsL at h;exact ⟨d,ds,rfl,h.1,h.2⟩
theorem IsL.length {K:W.Frag} {H:Hp}:∀ {xs:List V} {ds:List D},IsL K H xs ds->xs.length=ds.length
 | [],[],_=>rfl
 | [],_::_,h=>by unfold IsL at h;exact h.elim
 | _::_,[],h=>by unfold IsL at h;exact h.elim
 | x::xs,d::ds,h=>by unfold IsL at h;rw [List.length_cons,List.length_cons,IsL.length h.2]
theorem IsL.get {K:W.Frag} {H:Hp}:∀ {xs:List V} {ds:List D} {i:Nat} {d:D},IsL K H xs ds->ds[i]?=some d->∃ x,xs[i]?=some x/\Is K H x d
 | [],[],_,_,_,e=>by simp at e
 | [],_::_,_,_,h,_=>by unfold IsL at h;exact h.elim
 | _::_,[],_,_,_,e=>by simp at e
 | x::xs,d::ds,0,d',h,e=>by
  unfold IsL at h;have:d=d':=by simpa using e
  subst this;exact ⟨x,rfl,h.1⟩
 | x::xs,d::ds,i+1,_,h,e=>by
  unfold IsL at h;obtain ⟨y,e1,e2⟩:=IsL.get (i:=i) h.2 (by simpa using e);exact ⟨y,by simpa using e1,e2⟩
theorem MB {X:Cx} {pins:List (Addr×Obj)} {σ:St} {H:Hp} {s:Shared} {a:Addr} {xs ys:List V} (I:Inv X pins σ H s) (h:DY X.K H a xs) (k:CP X.K H a ys):False:=by
 obtain ⟨_,_,⟨o,e,c,_⟩,_⟩:=I.tuple h;obtain ⟨_,_,⟨o',n,e',c',_⟩,_⟩:=I.list k;rw [e] at e';cases e';rw [c] at c';injection c' with q
 exact absurd q (by decide)
mutual
theorem Is.inj {X:Cx} {pins:List (Addr×Obj)} {σ:St} {H:Hp} {s:Shared} (I:Inv X pins σ H s):∀ {d e:D} {x:V},Is X.K H x d->Is X.K H x e->d=e
 | .fl v,e,x,h,k=>by
  unfold Is at h;obtain ⟨rfl,hf⟩:=h;cases e with
  | fl u=>unfold Is at k;rw [k.1]
  | tup es=>unfold Is at k;obtain ⟨a,xs,rfl,_⟩:=k;cases hf
  | lst es=>unfold Is at k;obtain ⟨a,xs,rfl,_⟩:=k;cases hf
 | .tup ds,e,x,h,k=>by
  unfold Is at h;obtain ⟨a,xs,rfl,h1,h2⟩:=h;cases e with
  | fl u=>unfold Is at k;obtain ⟨k1,k2⟩:=k;rw [<- k1] at k2;cases k2
  | tup es =>
   unfold Is at k;obtain ⟨b,ys,e,k1,k2⟩:=k;cases e;rw [I.tuple_inj h1 k1] at h2;rw [IsL.inj I h2 k2]
  | lst es=>unfold Is at k;obtain ⟨b,ys,e,k1,k2⟩:=k;cases e;exact (MB I h1 k1).elim
 | .lst ds,e,x,h,k=>by
  unfold Is at h;obtain ⟨a,xs,rfl,h1,h2⟩:=h;cases e with
  | fl u=>unfold Is at k;obtain ⟨k1,k2⟩:=k;rw [<- k1] at k2;cases k2
  | lst es =>
   unfold Is at k;obtain ⟨b,ys,e,k1,k2⟩:=k;cases e;rw [I.list_inj h1 k1] at h2;rw [IsL.inj I h2 k2]
  | tup es=>unfold Is at k;obtain ⟨b,ys,e,k1,k2⟩:=k;cases e;exact (MB I k1 h1).elim
theorem IsL.inj {X:Cx} {pins:List (Addr×Obj)} {σ:St} {H:Hp} {s:Shared} (I:Inv X pins σ H s):∀ {ds es:List D} {xs:List V},IsL X.K H xs ds->IsL X.K H xs es->ds=es
 | [],es,[],h,k=>by
  cases es with
  | nil=>rfl
  | cons e es=>unfold IsL at k;exact k.elim
 | [],_,_::_,h,_=>by unfold IsL at h;exact h.elim
 | _::_,_,[],h,_=>by unfold IsL at h;exact h.elim
 | d::ds,es,x::xs,h,k=>by
  unfold IsL at h;obtain ⟨e,es',rfl,k1,k2⟩:=k.inv;rw [Is.inj I h.1 k1,IsL.inj I h.2 k2]
end
theorem eqV_refl {v:V} (h:EL v=true):eqV v v=true:=by
 cases v<;>first | rfl | (simp [eqV];done) | cases h
mutual
theorem eqD_refl {K:W.Frag} {H:Hp}:∀ {d:D} {x:V},Is K H x d->eqD d d=true
 | .fl v,x,h=>by unfold Is at h;unfold eqD;exact eqV_refl h.2
 | .tup ds,x,h=>by unfold Is at h;obtain ⟨_,_,_,_,h2⟩:=h;unfold eqD;exact eqDs_refl h2
 | .lst ds,x,h=>by unfold Is at h;obtain ⟨_,_,_,_,h2⟩:=h;unfold eqD;exact eqDs_refl h2
theorem eqDs_refl {K:W.Frag} {H:Hp}:∀ {ds:List D} {xs:List V},IsL K H xs ds->eqDs ds ds=true
 | [],_,_=>by unfold eqDs;rfl
 | _::_,[],h=>by unfold IsL at h;exact h.elim
 | d::ds,x::xs,h=>by
  unfold IsL at h;unfold eqDs;rw [eqD_refl h.1,eqDs_refl h.2];rfl
end
theorem BY:∀ (xs ys:List D) (e:Nat->Bool),(∀ i x y,xs[i]?=some x->ys[i]?=some y->e i=eqD x y)->((List.range (min xs.length ys.length)).all e && xs.length == ys.length)=eqDs xs ys
 | [],[],_,_=>by unfold eqDs;rfl
 | [],_::_,_,_=>by unfold eqDs;simp
 | _::_,[],_,_=>by unfold eqDs;simp
 | x::xs,y::ys,e,h=>by
  have ih:=BY xs ys (fun i=>e (i+1)) fun i a b h1 h2=>h (i+1) a b (by simpa using h1) (by simpa using h2)
  have h0:=h 0 x y rfl rfl;unfold eqDs;rw [<- ih,<- h0,List.length_cons,List.length_cons,Nat.succ_min_succ,List.range_succ_eq_map,List.all_cons,List.all_map];have:((xs.length+1 == ys.length+1):Bool)=(xs.length == ys.length):=by simp
  rw [this,Bool.and_assoc];rfl
theorem EN:∀ {ds:List D} {i:Nat} {d:D},ds[i]?=some d->d.dep<=depL ds
 | [],_,_,e=>by simp at e
 | d::ds,0,d',e=>by
  have:d=d':=by simpa using e
  subst this;show d.dep<=depL (d::ds);unfold depL;exact Nat.le_max_left _ _
 | d::ds,i+1,x,e=>by
  have:=EN (ds:=ds) (i:=i) (d:=x) (by simpa using e);unfold depL;exact Nat.le_trans this (Nat.le_max_right _ _)
section
variable {X:Cx} {pins:List (Addr×Obj)} {σ:St} {H:Hp} {s:Shared}
def eAt (ds es:List D) (i:Nat):Bool:=match ds[i]?,es[i]? with | some a,some b=>eqD a b | _,_=>true
theorem eAt_of {ds es:List D} {i:Nat} {a b:D} (h1:ds[i]?=some a) (h2:es[i]?=some b):eAt ds es i=eqD a b:=by unfold eAt;rw [h1,h2]
theorem Ai {x:V} (h:EL x=true):x=.non\/(∃ b,x=.bl b)\/(∃ i,x=.int i)\/∃ z,x=.str z:=by
 cases x with
 | non=>exact .inl rfl
 | bl b=>exact .inr (.inl ⟨b,rfl⟩)
 | int i=>exact .inr (.inr (.inl ⟨i,rfl⟩))
 | str z=>exact .inr (.inr (.inr ⟨z,rfl⟩))
 | _=>cases h
theorem RX (I:Inv X pins σ H s):∀ (n:Nat) (A:Around) (d e:D) (x y:V) (u v:Value),d.dep<=n->A.units+n < cLine->RelV x u->RelV y v->Is X.K H x d->Is X.K H y e->EqAt A s u v (eqD d e):=by
 intro n
 induction n with
 | zero =>
  intro A d e x y u v hd hu rx ry hx hy;cases d with
  | fl a =>
   unfold Is at hx;obtain ⟨rfl,fx⟩:=hx;cases e with
   | fl b=>unfold Is at hy;obtain ⟨rfl,fy⟩:=hy;unfold eqD;exact ZL rx ry fx fy
   | tup es =>
    unfold Is at hy;obtain ⟨b,ys,rfl,h1,h2⟩:=hy;cases ry;obtain ⟨its,r,ht,_⟩:=I.tuple h1;unfold eqD;rcases Ai fx with rfl | ⟨c,rfl⟩ | ⟨c,rfl⟩ | ⟨c,rfl⟩
    ·cases rx;exact EqAt.none_tuple ht hu
    ·cases rx;exact EqAt.bool_tuple c ht hu
    ·obtain ⟨t,rfl⟩:=rx;exact EqAt.int_tuple c t ht hu
    ·obtain ⟨t,rfl⟩:=rx;exact EqAt.str_tuple c t ht hu
   | lst es =>
    unfold Is at hy;obtain ⟨b,ys,rfl,h1,h2⟩:=hy;cases ry;obtain ⟨its,r,ht,_⟩:=I.list h1;unfold eqD;rcases Ai fx with rfl | ⟨c,rfl⟩ | ⟨c,rfl⟩ | ⟨c,rfl⟩
    ·cases rx;exact EqAt.none_list ht.isList hu
    ·cases rx;exact EqAt.bool_list c ht.isList hu
    ·obtain ⟨t,rfl⟩:=rx;exact EqAt.int_list c t ht.isList hu
    ·obtain ⟨t,rfl⟩:=rx;exact EqAt.str_list c t ht.isList hu
  | tup ds=>unfold D.dep at hd;omega
  | lst ds=>unfold D.dep at hd;omega
 | succ n ih =>
  intro A d e x y u v hd hu rx ry hx hy;have hu0:A.units < cLine:=by omega
  cases d with
  | fl a=>exact ih A (.fl a) e x y u v (by unfold D.dep;omega) (by omega) rx ry hx hy
  | tup ds =>
   unfold D.dep at hd;have hx0:=hx;unfold Is at hx;obtain ⟨a,xs,rfl,h1,h2⟩:=hx;cases rx;obtain ⟨its,r,ht,_⟩:=I.tuple h1;cases e with
   | fl b =>
    unfold Is at hy;obtain ⟨rfl,fy⟩:=hy;unfold eqD;rcases Ai fy with rfl | ⟨c,rfl⟩ | ⟨c,rfl⟩ | ⟨c,rfl⟩
    ·cases ry;exact EqAt.tuple_none ht hu0
    ·cases ry;exact EqAt.tuple_bool c ht hu0
    ·obtain ⟨t,rfl⟩:=ry;exact EqAt.tuple_int c t ht hu0
    ·obtain ⟨t,rfl⟩:=ry;exact EqAt.tuple_str c t ht hu0
   | tup es =>
    have hy0:=hy;unfold Is at hy;obtain ⟨b,ys,rfl,k1,k2⟩:=hy;cases ry;obtain ⟨its2,r2,ht2,_⟩:=I.tuple k1
    by_cases hab:a=b
    ·subst hab;rw [Is.inj I hx0 hy0,eqD_refl hy0];exact EqAt.same _
    ·refine EqAt.of_refs hab ?_;have q:=RcAt.tuples (e:=eAt ds es) ht ht2 hu0 (fun j j1 j2=>?_)
     ·have e1:=BY ds es (eAt ds es) fun i a b q1 q2=>eAt_of q1 q2
      rw [List.size_toArray,List.size_toArray,<- r.length,<- r2.length,h2.length,k2.length,e1] at q;unfold eqD;exact q
     ·have j1':j < its.length:=by simpa using j1
      have j2':j < its2.length:=by simpa using j2
      have l1:j < ds.length:=by rw [<- h2.length,r.length];exact j1'
      have l2:j < es.length:=by rw [<- k2.length,r2.length];exact j2'
      obtain ⟨x',ex,px⟩:=h2.get (i:=j) (List.getElem?_eq_getElem l1);obtain ⟨y',ey,py⟩:=k2.get (i:=j) (List.getElem?_eq_getElem l2);obtain ⟨u',eu,ru⟩:=r.get ex;obtain ⟨v',ev,rv⟩:=r2.get ey;rw [eAt_of (List.getElem?_eq_getElem l1) (List.getElem?_eq_getElem l2)];have z1:its.toArray[j]=u':=by rw [List.getElem?_eq_getElem j1'] at eu;simpa using Option.some.inj eu
      have z2:its2.toArray[j]=v':=by rw [List.getElem?_eq_getElem j2'] at ev;simpa using Option.some.inj ev
      rw [z1,z2];exact ih A.in1 _ _ x' y' u' v' (Nat.le_trans (EN (List.getElem?_eq_getElem l1)) (by omega)) (by show A.units+1+n < cLine;omega) ru rv px py
   | lst es =>
    unfold Is at hy;obtain ⟨b,ys,rfl,k1,k2⟩:=hy;cases ry;obtain ⟨its2,r2,ht2,_⟩:=I.list k1;unfold eqD;exact EqAt.tuple_list ht ht2.isList hu0
  | lst ds =>
   unfold D.dep at hd;have hx0:=hx;unfold Is at hx;obtain ⟨a,xs,rfl,h1,h2⟩:=hx;cases rx;obtain ⟨its,r,ht,_⟩:=I.list h1;cases e with
   | fl b =>
    unfold Is at hy;obtain ⟨rfl,fy⟩:=hy;unfold eqD;rcases Ai fy with rfl | ⟨c,rfl⟩ | ⟨c,rfl⟩ | ⟨c,rfl⟩
    ·cases ry;exact EqAt.list_none ht.isList hu0
    ·cases ry;exact EqAt.list_bool c ht.isList hu0
    ·obtain ⟨t,rfl⟩:=ry;exact EqAt.list_int c t ht.isList hu0
    ·obtain ⟨t,rfl⟩:=ry;exact EqAt.list_str c t ht.isList hu0
   | tup es =>
    unfold Is at hy;obtain ⟨b,ys,rfl,k1,k2⟩:=hy;cases ry;obtain ⟨its2,r2,ht2,_⟩:=I.tuple k1;unfold eqD;exact EqAt.list_tuple ht.isList ht2 hu0
   | lst es =>
    have hy0:=hy;unfold Is at hy;obtain ⟨b,ys,rfl,k1,k2⟩:=hy;cases ry;obtain ⟨its2,r2,ht2,_⟩:=I.list k1
    by_cases hab:a=b
    ·subst hab;rw [Is.inj I hx0 hy0,eqD_refl hy0];exact EqAt.same _
    ·refine EqAt.of_refs hab ?_
     by_cases hsz:ds.length=es.length
     ·have e1:=BY ds es (eAt ds es) fun i a b q1 q2=>eAt_of q1 q2
      rw [hsz,Nat.min_self,beq_self_eq_true,Bool.and_true] at e1;have q:=RcAt.lists (e:=eAt ds es) ht.isList ht2.isList (by rw [List.size_toArray,List.size_toArray,<- r.length,<- r2.length,h2.length,k2.length];exact hsz) hu0 (fun j j1 j2=>?_)
      ·rw [List.size_toArray,<- r.length,h2.length,hsz,e1] at q;unfold eqD;exact q
      ·have j1':j < its.length:=by simpa using j1
       have j2':j < its2.length:=by simpa using j2
       have l1:j < ds.length:=by rw [<- h2.length,r.length];exact j1'
       have l2:j < es.length:=by rw [<- k2.length,r2.length];exact j2'
       obtain ⟨x',ex,px⟩:=h2.get (i:=j) (List.getElem?_eq_getElem l1);obtain ⟨y',ey,py⟩:=k2.get (i:=j) (List.getElem?_eq_getElem l2);obtain ⟨u',eu,ru⟩:=r.get ex;obtain ⟨v',ev,rv⟩:=r2.get ey;rw [eAt_of (List.getElem?_eq_getElem l1) (List.getElem?_eq_getElem l2)];have z1:its.toArray[j]=u':=by rw [List.getElem?_eq_getElem j1'] at eu;simpa using Option.some.inj eu
       have z2:its2.toArray[j]=v':=by rw [List.getElem?_eq_getElem j2'] at ev;simpa using Option.some.inj ev
       rw [z1,z2];exact ih A.in1 _ _ x' y' u' v' (Nat.le_trans (EN (List.getElem?_eq_getElem l1)) (by omega)) (by show A.units+1+n < cLine;omega) ru rv px py
     ·have q:=RcAt.lists_lengths (A:=A) ht.isList ht2.isList (by rw [List.size_toArray,List.size_toArray,<- r.length,<- r2.length,h2.length,k2.length];simpa using hsz) hu0;have e1:=BY ds es (eAt ds es) fun i a b q1 q2=>eAt_of q1 q2
      have:(ds.length == es.length)=false:=by simpa using hsz
      rw [this,Bool.and_false] at e1;unfold eqD;rw [<- e1];exact q
end
noncomputable def D.seq:D->Bool
 | .fl _=>false
 | _=>true
section
variable {X:Cx} {pins:List (Addr×Obj)} {σ:St} {H:Hp} {s:Shared}
theorem Jp (I:Inv X pins σ H s) {n:Nat} {A:Around} {xs ys:List V} {ds es:List D} {its its2:List Value} (hd:depL ds<=n) (hu:A.units+1+n < cLine) (r:AE xs its) (r2:AE ys its2) (h2:IsL X.K H xs ds) (k2:IsL X.K H ys es) :
    ∀ j (h1:j < its.toArray.size) (h2:j < its2.toArray.size),EqAt A.in1 s its.toArray[j] its2.toArray[j] (eAt ds es j):=fun j j1 j2=>by
  have j1':j < its.length:=by simpa using j1
  have j2':j < its2.length:=by simpa using j2
  have l1:j < ds.length:=by rw [<- h2.length,r.length];exact j1'
  have l2:j < es.length:=by rw [<- k2.length,r2.length];exact j2'
  obtain ⟨x',ex,px⟩:=h2.get (i:=j) (List.getElem?_eq_getElem l1);obtain ⟨y',ey,py⟩:=k2.get (i:=j) (List.getElem?_eq_getElem l2);obtain ⟨u',eu,ru⟩:=r.get ex;obtain ⟨v',ev,rv⟩:=r2.get ey;rw [eAt_of (List.getElem?_eq_getElem l1) (List.getElem?_eq_getElem l2)];have z1:its.toArray[j]=u':=by rw [List.getElem?_eq_getElem j1'] at eu;simpa using Option.some.inj eu
  have z2:its2.toArray[j]=v':=by rw [List.getElem?_eq_getElem j2'] at ev;simpa using Option.some.inj ev
  rw [z1,z2];exact RX I n A.in1 _ _ x' y' u' v' (Nat.le_trans (EN (List.getElem?_eq_getElem l1)) hd) (by show A.units+1+n < cLine;exact hu) ru rv px py
theorem IK (I:Inv X pins σ H s) {A:Around} {d e:D} {x y:V} {u v:Value} (sd:d.seq=true) (se:e.seq=true) (hu:A.units+d.dep+1 < cLine) (rx:RelV x u) (ry:RelV y v) (hx:Is X.K H x d) (hy:Is X.K H y e):RcAt A s u v (eqD d e)/\RcNeAt A s u v (!eqD d e):=by
 have hu0:A.units < cLine:=by omega
 cases d with
 | fl a=>cases sd
 | tup ds =>
  unfold D.dep at hu;unfold Is at hx;obtain ⟨a,xs,rfl,h1,h2⟩:=hx;cases rx;obtain ⟨its,r,ht,_⟩:=I.tuple h1;cases e with
  | fl b=>cases se
  | tup es =>
   unfold Is at hy;obtain ⟨b,ys,rfl,k1,k2⟩:=hy;cases ry;obtain ⟨its2,r2,ht2,_⟩:=I.tuple k1;have e1:=BY ds es (eAt ds es) fun i a b q1 q2=>eAt_of q1 q2
   have it:=Jp I (A:=A) (n:=depL ds) (Nat.le_refl _) (by omega) r r2 h2 k2;have q:=RcAt.tuples (e:=eAt ds es) ht ht2 hu0 it;have q':=RcNeAt.tuples (e:=eAt ds es) ht ht2 hu0 it;rw [List.size_toArray,List.size_toArray,<- r.length,<- r2.length,h2.length,k2.length,e1] at q q';unfold eqD;exact ⟨q,q'⟩
  | lst es =>
   unfold Is at hy;obtain ⟨b,ys,rfl,k1,k2⟩:=hy;cases ry;obtain ⟨its2,r2,ht2,_⟩:=I.list k1;unfold eqD;exact ⟨RcAt.tuple_list ht ht2.isList hu0,RcNeAt.tuple_list ht ht2.isList hu0⟩
 | lst ds =>
  unfold D.dep at hu;unfold Is at hx;obtain ⟨a,xs,rfl,h1,h2⟩:=hx;cases rx;obtain ⟨its,r,ht,_⟩:=I.list h1;cases e with
  | fl b=>cases se
  | tup es =>
   unfold Is at hy;obtain ⟨b,ys,rfl,k1,k2⟩:=hy;cases ry;obtain ⟨its2,r2,ht2,_⟩:=I.tuple k1;unfold eqD;exact ⟨RcAt.list_tuple ht.isList ht2 hu0,RcNeAt.list_tuple ht.isList ht2 hu0⟩
  | lst es =>
   unfold Is at hy;obtain ⟨b,ys,rfl,k1,k2⟩:=hy;cases ry;obtain ⟨its2,r2,ht2,_⟩:=I.list k1;have e1:=BY ds es (eAt ds es) fun i a b q1 q2=>eAt_of q1 q2
   unfold eqD
   by_cases hsz:ds.length=es.length
   ·rw [hsz,Nat.min_self,beq_self_eq_true,Bool.and_true] at e1;have it:=Jp I (A:=A) (n:=depL ds) (Nat.le_refl _) (by omega) r r2 h2 k2;have sz:its.toArray.size=its2.toArray.size:=by rw [List.size_toArray,List.size_toArray,<- r.length,<- r2.length,h2.length,k2.length];exact hsz
    have q:=RcAt.lists (e:=eAt ds es) ht.isList ht2.isList sz hu0 it;have q':=RcNeAt.lists (e:=eAt ds es) ht.isList ht2.isList sz hu0 it;rw [List.size_toArray,<- r.length,h2.length,hsz,e1] at q q';exact ⟨q,q'⟩
   ·have sz:(its.toArray.size != its2.toArray.size)=true:=by rw [List.size_toArray,List.size_toArray,<- r.length,<- r2.length,h2.length,k2.length];simpa using hsz
    have:(ds.length == es.length)=false:=by simpa using hsz
    rw [this,Bool.and_false] at e1;rw [<- e1];exact ⟨RcAt.lists_lengths ht.isList ht2.isList sz hu0,RcNeAt.lists_lengths ht.isList ht2.isList sz hu0⟩
end
section
variable {X:Cx} {pins:List (Addr×Obj)} {σ:L2.St} {H:Hp} {s:Shared}
theorem Tj {A:Around} {x y:V} {u v:Value} (rx:RelV x u) (ry:RelV y v) (fx:EL x=true) (fy:EL y=true):RcAt A s u v (eqV x y)/\RcNeAt A s u v (!eqV x y):=by
 rcases Ai fx with rfl | ⟨c,rfl⟩ | ⟨c,rfl⟩ | ⟨c,rfl⟩<;>rcases Ai fy with rfl | ⟨d,rfl⟩ | ⟨d,rfl⟩ | ⟨d,rfl⟩
 ·cases rx;cases ry;exact ⟨RcAt.none_none , RcNeAt.none_none ⟩
 ·cases rx;cases ry;exact ⟨RcAt.none_bool d,RcNeAt.none_bool d⟩
 ·cases rx;obtain ⟨dt,rfl⟩:=ry;exact ⟨RcAt.none_int d dt,RcNeAt.none_int d dt⟩
 ·cases rx;obtain ⟨dt,rfl⟩:=ry;exact ⟨RcAt.none_str d dt,RcNeAt.none_str d dt⟩
 ·cases rx;cases ry;exact ⟨RcAt.bool_none c,RcNeAt.bool_none c⟩
 ·cases rx;cases ry;exact ⟨RcAt.bool_bool c d,RcNeAt.bool_bool c d⟩
 ·cases rx;obtain ⟨dt,rfl⟩:=ry;exact ⟨RcAt.bool_int c d dt,RcNeAt.bool_int c d dt⟩
 ·cases rx;obtain ⟨dt,rfl⟩:=ry;exact ⟨RcAt.bool_str c d dt,RcNeAt.bool_str c d dt⟩
 ·obtain ⟨ct,rfl⟩:=rx;cases ry;exact ⟨RcAt.int_none c ct,RcNeAt.int_none c ct⟩
 ·obtain ⟨ct,rfl⟩:=rx;cases ry;exact ⟨RcAt.int_bool c ct d,RcNeAt.int_bool c ct d⟩
 ·obtain ⟨ct,rfl⟩:=rx;obtain ⟨dt,rfl⟩:=ry;exact ⟨RcAt.int_int c ct d dt,RcNeAt.int_int c ct d dt⟩
 ·obtain ⟨ct,rfl⟩:=rx;obtain ⟨dt,rfl⟩:=ry;exact ⟨RcAt.int_str c ct d dt,RcNeAt.int_str c ct d dt⟩
 ·obtain ⟨ct,rfl⟩:=rx;cases ry;exact ⟨RcAt.str_none c ct,RcNeAt.str_none c ct⟩
 ·obtain ⟨ct,rfl⟩:=rx;cases ry;exact ⟨RcAt.str_bool c ct d,RcNeAt.str_bool c ct d⟩
 ·obtain ⟨ct,rfl⟩:=rx;obtain ⟨dt,rfl⟩:=ry;exact ⟨RcAt.str_int c ct d dt,RcNeAt.str_int c ct d dt⟩
 ·obtain ⟨ct,rfl⟩:=rx;obtain ⟨dt,rfl⟩:=ry;exact ⟨RcAt.str_str c ct d dt,RcNeAt.str_str c ct d dt⟩
theorem JQ (I:Inv X pins σ H s) {A:Around} {d e:D} {x y:V} {u v:Value} (hu:A.units+d.dep+1 < cLine) (rx:RelV x u) (ry:RelV y v) (hx:Is X.K H x d) (hy:Is X.K H y e):RcAt A s u v (eqD d e)/\RcNeAt A s u v (!eqD d e):=by
 have hu0:A.units < cLine:=by omega
 cases d with
 | fl a =>
  unfold Is at hx;obtain ⟨rfl,fx⟩:=hx;cases e with
  | fl b =>
   unfold Is at hy;obtain ⟨rfl,fy⟩:=hy;unfold eqD;exact Tj rx ry fx fy
  | tup es =>
   unfold Is at hy;obtain ⟨b,ys,rfl,k1,k2⟩:=hy;cases ry;obtain ⟨its2,r2,ht2,_⟩:=I.tuple k1;unfold eqD;rcases Ai fx with rfl | ⟨c,rfl⟩ | ⟨c,rfl⟩ | ⟨c,rfl⟩
   ·cases rx;exact ⟨RcAt.none_tuple ht2 hu0,RcNeAt.none_tuple ht2 hu0⟩
   ·cases rx;exact ⟨RcAt.bool_tuple c ht2 hu0,RcNeAt.bool_tuple c ht2 hu0⟩
   ·obtain ⟨t,rfl⟩:=rx;exact ⟨RcAt.int_tuple c t ht2 hu0,RcNeAt.int_tuple c t ht2 hu0⟩
   ·obtain ⟨t,rfl⟩:=rx;exact ⟨RcAt.str_tuple c t ht2 hu0,RcNeAt.str_tuple c t ht2 hu0⟩
  | lst es =>
   unfold Is at hy;obtain ⟨b,ys,rfl,k1,k2⟩:=hy;cases ry;obtain ⟨its2,r2,ht2,_⟩:=I.list k1;unfold eqD;rcases Ai fx with rfl | ⟨c,rfl⟩ | ⟨c,rfl⟩ | ⟨c,rfl⟩
   ·cases rx;exact ⟨RcAt.none_list ht2.isList hu0,RcNeAt.none_list ht2.isList hu0⟩
   ·cases rx;exact ⟨RcAt.bool_list c ht2.isList hu0,RcNeAt.bool_list c ht2.isList hu0⟩
   ·obtain ⟨t,rfl⟩:=rx;exact ⟨RcAt.int_list c t ht2.isList hu0,RcNeAt.int_list c t ht2.isList hu0⟩
   ·obtain ⟨t,rfl⟩:=rx;exact ⟨RcAt.str_list c t ht2.isList hu0,RcNeAt.str_list c t ht2.isList hu0⟩
 | tup ds =>
  cases e with
  | fl b =>
   unfold Is at hx hy;obtain ⟨b',ys,rfl,k1,k2⟩:=hx;obtain ⟨rfl,fy⟩:=hy;cases rx;obtain ⟨its2,r2,ht2,_⟩:=I.tuple k1;unfold eqD;rcases Ai fy with rfl | ⟨c,rfl⟩ | ⟨c,rfl⟩ | ⟨c,rfl⟩
   ·cases ry;exact ⟨RcAt.tuple_none ht2 hu0,RcNeAt.tuple_none ht2 hu0⟩
   ·cases ry;exact ⟨RcAt.tuple_bool c ht2 hu0,RcNeAt.tuple_bool c ht2 hu0⟩
   ·obtain ⟨t,rfl⟩:=ry;exact ⟨RcAt.tuple_int c t ht2 hu0,RcNeAt.tuple_int c t ht2 hu0⟩
   ·obtain ⟨t,rfl⟩:=ry;exact ⟨RcAt.tuple_str c t ht2 hu0,RcNeAt.tuple_str c t ht2 hu0⟩
  | tup es=>exact IK I rfl rfl hu rx ry hx hy
  | lst es=>exact IK I rfl rfl hu rx ry hx hy
 | lst ds =>
  cases e with
  | fl b =>
   unfold Is at hx hy;obtain ⟨b',ys,rfl,k1,k2⟩:=hx;obtain ⟨rfl,fy⟩:=hy;cases rx;obtain ⟨its2,r2,ht2,_⟩:=I.list k1;unfold eqD;rcases Ai fy with rfl | ⟨c,rfl⟩ | ⟨c,rfl⟩ | ⟨c,rfl⟩
   ·cases ry;exact ⟨RcAt.list_none ht2.isList hu0,RcNeAt.list_none ht2.isList hu0⟩
   ·cases ry;exact ⟨RcAt.list_bool c ht2.isList hu0,RcNeAt.list_bool c ht2.isList hu0⟩
   ·obtain ⟨t,rfl⟩:=ry;exact ⟨RcAt.list_int c t ht2.isList hu0,RcNeAt.list_int c t ht2.isList hu0⟩
   ·obtain ⟨t,rfl⟩:=ry;exact ⟨RcAt.list_str c t ht2.isList hu0,RcNeAt.list_str c t ht2.isList hu0⟩
  | tup es=>exact IK I rfl rfl hu rx ry hx hy
  | lst es=>exact IK I rfl rfl hu rx ry hx hy
def rEqA (K:W.Frag) (neg:Bool):R2:=fun x y H Q=>∃ d e,d.dep<=150/\Is K H x d/\Is K H y e/\Q (.bl (if neg then !eqD d e else eqD d e)) H
theorem op_eqA {j:Nat} (hr:Room j X.A):Bx X (compareOp .Eq) (rEqA X.K false):=by
 intro pins s σ H x y v u Q I rx ry h;obtain ⟨d,e,hd,hx,hy,q⟩:=h;have:=hr.un;exact (JQ I (by omega) rx ry hx hy).1 X.prog X.w _ _ ⟨.bl _,H,I,rfl,q⟩
theorem op_neA {j:Nat} (hr:Room j X.A):Bx X (compareOp .NotEq) (rEqA X.K true):=by
 intro pins s σ H x y v u Q I rx ry h;obtain ⟨d,e,hd,hx,hy,q⟩:=h;have:=hr.un;exact (JQ I (by omega) rx ry hx hy).2 X.prog X.w _ _ ⟨.bl _,H,I,rfl,q⟩
open Classical in
def eqW (its:List Value) (ds:List D) (e:D) (u:Value):Bool:=decide (∃ (i:Nat) (d:D),its[i]?=some u/\ds[i]?=some d/\eqD d e=true)
open Classical in
theorem eqW_at (I:Inv X pins σ H s) {xs:List V} {its:List Value} {ds:List D} (r:AE xs its) (h:IsL X.K H xs ds) {e:D} {i:Nat} {u:Value} {d:D} (hu:its[i]?=some u) (hd:ds[i]?=some d):eqW its ds e u=eqD d e:=by
 have key:∀ (j:Nat) (d':D),its[j]?=some u->ds[j]?=some d'->d'=d:=fun j d' h1 h2=>by
  obtain ⟨x,ex,px⟩:=h.get hd;obtain ⟨y,ey,py⟩:=h.get h2;obtain ⟨u1,e1,r1⟩:=r.get ex;obtain ⟨u2,e2,r2⟩:=r.get ey;rw [hu] at e1;cases e1;rw [h1] at e2;cases e2;rw [r2.inj r1] at py;exact Is.inj I py px
 unfold eqW;cases q:eqD d e with
 | true=>exact decide_eq_true ⟨i,d,hu,hd,q⟩
 | false =>
  refine decide_eq_false ?_;rintro ⟨j,d',h1,h2,h3⟩;rw [key j d' h1 h2,q] at h3;cases h3
theorem Fg (I:Inv X pins σ H s) {xs:List V} {its:List Value} {ds:List D} (r:AE xs its) (h:IsL X.K H xs ds) (e:D):its.any (eqW its ds e)=ds.any fun d=>eqD d e:=by
 rw [Bool.eq_iff_iff,List.any_eq_true,List.any_eq_true];have hl:its.length=ds.length:=by rw [<- r.length,h.length]
 constructor
 ·rintro ⟨u,hu,q⟩;obtain ⟨i,hi,rfl⟩:=List.getElem_of_mem hu;have hd:ds[i]?=some ds[i]:=List.getElem?_eq_getElem (by omega);rw [eqW_at I r h (List.getElem?_eq_getElem hi) hd] at q;exact ⟨_,List.mem_of_getElem? hd,q⟩
 ·rintro ⟨d,hd,q⟩;obtain ⟨i,hi,rfl⟩:=List.getElem_of_mem hd;have hu:its[i]?=some its[i]:=List.getElem?_eq_getElem (by omega);exact ⟨_,List.mem_of_getElem? hu,by rw [eqW_at I r h hu (List.getElem?_eq_getElem hi)];exact q⟩
theorem all_eqW (I:Inv X pins σ H s) {A:Around} {xs:List V} {its:List Value} {ds:List D} (r:AE xs its) (h:IsL X.K H xs ds) {e:D} {y:V} {v:Value} (ry:RelV y v) (hy:Is X.K H y e) (hd:depL ds<=150) (hu:A.units+150 < cLine):∀ w∈its,EqAt A s w v (eqW its ds e w):=fun w hw=>by
 obtain ⟨i,hi,rfl⟩:=List.getElem_of_mem hw;have hl:its.length=ds.length:=by rw [<- r.length,h.length]
 have hdi:ds[i]?=some ds[i]:=List.getElem?_eq_getElem (by omega);rw [eqW_at I r h (List.getElem?_eq_getElem hi) hdi];obtain ⟨x,ex,px⟩:=h.get hdi;obtain ⟨u1,e1,r1⟩:=r.get ex;rw [List.getElem?_eq_getElem hi] at e1;cases e1;exact RX I 150 A _ _ x y _ _ (Nat.le_trans (EN hdi) hd) hu r1 ry px hy
def rInA (K:W.Frag) (neg:Bool):R2:=fun x y H Q=>∃ p ys ds e,y=.ref p/\(CP K H p ys\/DY K H p ys)/\IsL K H ys ds/\Is K H x e/\depL ds<=150/\Q (.bl (if neg then !(ds.any fun d=>eqD d e) else ds.any fun d=>eqD d e)) H
theorem op_inA {j:Nat} (hr:Room j X.A):Bx X (compareOp .In) (rInA X.K false):=by
 intro pins s σ H x y v u Q I rx ry h;obtain ⟨p,ys,ds,e,rfl,hq,hl,hx,hd,q⟩:=h;have hu:X.A.units+1+150 < cLine:=by have:=hr.un;omega
 cases ry;rcases hq with hq | hq
 ·obtain ⟨its,r,pl,hz⟩:=I.list hq;refine SeqAt.in_listAt (eqW its ds e) pl.isList (fun w hw=>all_eqW I r hl rx hx hd hu w (by simpa using hw)) ⟨.bl _,H,I,rfl,?_⟩;rw [show its.toArray.any (eqW its ds e)=its.any (eqW its ds e) by simp,Fg I r hl];exact q
 ·obtain ⟨its,r,pl,hz⟩:=I.tuple hq;refine SeqAt.in_tupleAt (eqW its ds e) pl (fun w hw=>all_eqW I r hl rx hx hd hu w (by simpa using hw)) ⟨.bl _,H,I,rfl,?_⟩;rw [show its.toArray.any (eqW its ds e)=its.any (eqW its ds e) by simp,Fg I r hl];exact q
theorem op_notInA {j:Nat} (hr:Room j X.A):Bx X (compareOp .NotIn) (rInA X.K true):=by
 intro pins s σ H x y v u Q I rx ry h;obtain ⟨p,ys,ds,e,rfl,hq,hl,hx,hd,q⟩:=h;have hu:X.A.units+1+150 < cLine:=by have:=hr.un;omega
 cases ry;rcases hq with hq | hq
 ·obtain ⟨its,r,pl,hz⟩:=I.list hq;refine SeqAt.notIn_listAt (eqW its ds e) pl.isList (fun w hw=>all_eqW I r hl rx hx hd hu w (by simpa using hw)) ⟨.bl _,H,I,rfl,?_⟩;rw [show its.toArray.any (eqW its ds e)=its.any (eqW its ds e) by simp,Fg I r hl];exact q
 ·obtain ⟨its,r,pl,hz⟩:=I.tuple hq;refine SeqAt.notIn_tupleAt (eqW its ds e) pl (fun w hw=>all_eqW I r hl rx hx hd hu w (by simpa using hw)) ⟨.bl _,H,I,rfl,?_⟩;rw [show its.toArray.any (eqW its ds e)=its.any (eqW its ds e) by simp,Fg I r hl];exact q
end
end L3
namespace Q
open PySem L2
mutual
noncomputable def toD:Dt->L3.D
 | .non=>.fl .non
 | .bl b=>.fl (.bl b)
 | .int i=>.fl (.int i)
 | .str l=>.fl (.str (tx l))
 | .tup xs=>.tup (toDs xs)
 | .lst _ xs=>.lst (toDs xs)
 | _=>.fl .non
noncomputable def toDs:List Dt->List L3.D
 | []=>[]
 | d::ds=>toD d::toDs ds
end
mutual
noncomputable def Dt.cmp:Dt->Bool
 | .non=>true
 | .bl _=>true
 | .int _=>true
 | .str _=>true
 | .tup xs=>cmps xs
 | .lst _ xs=>cmps xs
 | _=>false
noncomputable def cmps:List Dt->Bool
 | []=>true
 | d::ds=>d.cmp && cmps ds
end
mutual
noncomputable def Dt.dep:Dt->Nat
 | .tup xs=>OD xs+1
 | .lst _ xs=>OD xs+1
 | _=>0
noncomputable def OD:List Dt->Nat
 | []=>0
 | d::ds=>max d.dep (OD ds)
end
mutual
noncomputable def eqT:Dt->Dt->Bool
 | .non,.non=>true
 | .bl a,.bl b=>a == b
 | .bl a,.int b=>(if a then 1 else 0) == b
 | .int a,.bl b=>a == (if b then 1 else 0)
 | .int a,.int b=>a == b
 | .str a,.str b=>a == b
 | .tup xs,.tup ys=>KA xs ys
 | .lst _ xs,.lst _ ys=>KA xs ys
 | _,_=>false
noncomputable def KA:List Dt->List Dt->Bool
 | [],[]=>true
 | x::xs,y::ys=>eqT x y && KA xs ys
 | _,_=>false
end
mutual
theorem Wn:∀ (d e:Dt),d.cmp=true->e.cmp=true->L3.eqD (toD d) (toD e)=eqT d e
 | .non,e,h,k=>by cases e<;>first | (unfold toD L3.eqD eqT;rfl) | (unfold Dt.cmp at k;cases k)
 | .bl b,e,h,k=>by cases e<;>first | (unfold toD L3.eqD eqT;rfl) | (unfold Dt.cmp at k;cases k)
 | .int i,e,h,k=>by cases e<;>first | (unfold toD L3.eqD eqT;rfl) | (unfold Dt.cmp at k;cases k)
 | .str l,e,h,k=>by
  cases e with
  | str m=>unfold toD L3.eqD eqT;rw [eqV_str];exact (Bool.beq_eq_decide_eq l m).symm
  | _=>first | (unfold toD L3.eqD eqT;rfl) | (unfold Dt.cmp at k;cases k)
 | .tup xs,e,h,k=>by
  cases e with
  | tup ys=>unfold toD L3.eqD eqT;unfold Dt.cmp at h k;exact La xs ys h k
  | _=>first | (unfold toD L3.eqD eqT;rfl) | (unfold Dt.cmp at k;cases k)
 | .lst o xs,e,h,k=>by
  cases e with
  | lst o' ys=>unfold toD L3.eqD eqT;unfold Dt.cmp at h k;exact La xs ys h k
  | _=>first | (unfold toD L3.eqD eqT;rfl) | (unfold Dt.cmp at k;cases k)
 | .dic o xs,e,h,k=>by unfold Dt.cmp at h;cases h
 | .ref o,e,h,k=>by unfold Dt.cmp at h;cases h
 | .scr o,e,h,k=>by unfold Dt.cmp at h;cases h
 | .ty o,e,h,k=>by unfold Dt.cmp at h;cases h
 | .mtp o,e,h,k=>by unfold Dt.cmp at h;cases h
 | .dti _ o,e,h,k=>by unfold Dt.cmp at h;cases h
theorem La:∀ (d e:List Dt),cmps d=true->cmps e=true->L3.eqDs (toDs d) (toDs e)=KA d e
 | [],[],_,_=>by unfold toDs L3.eqDs KA;rfl
 | [],_::_,_,_=>by simp only [toDs,L3.eqDs,KA]
 | _::_,[],_,_=>by simp only [toDs,L3.eqDs,KA]
 | x::xs,y::ys,h,k=>by
  unfold cmps at h k;rw [Bool.and_eq_true] at h k;simp only [toDs,L3.eqDs,KA];rw [Wn x y h.1 k.1,La xs ys h.2 k.2]
end
mutual
theorem dep_D:∀ (d:Dt),(toD d).dep=d.dep
 | .non=>by unfold toD L3.D.dep Dt.dep;rfl
 | .bl b=>by unfold toD L3.D.dep Dt.dep;rfl
 | .int i=>by unfold toD L3.D.dep Dt.dep;rfl
 | .str l=>by unfold toD L3.D.dep Dt.dep;rfl
 | .tup xs=>by unfold toD L3.D.dep Dt.dep;rw [deps_D xs]
 | .lst o xs=>by unfold toD L3.D.dep Dt.dep;rw [deps_D xs]
 | .dic o xs=>by unfold toD L3.D.dep Dt.dep;rfl
 | .ref o=>by unfold toD L3.D.dep Dt.dep;rfl
 | .scr o=>by unfold toD L3.D.dep Dt.dep;rfl
 | .ty o=>by unfold toD L3.D.dep Dt.dep;rfl
 | .mtp o=>by unfold toD L3.D.dep Dt.dep;rfl
 | .dti _ o=>by unfold toD L3.D.dep Dt.dep;rfl
theorem deps_D:∀ (d:List Dt),L3.depL (toDs d)=OD d
 | []=>by unfold toDs L3.depL OD;rfl
 | x::xs=>by simp only [toDs,L3.depL,OD];rw [dep_D x,deps_D xs]
end
section
variable {K:W.Frag} {g:G} {H:Hp}
def Yf (e:Dt) (ds:List Dt):Bool:=ds.any fun d=>eqT d e
def sub1 (x l:List Nat):Bool:=!(Builtin.Str.occurrences (tx l) (tx x) 0 (tx l).length 1).isEmpty
def Xl (neg:Bool):R2:=fun x y H Q=>∃ i j,x=.str i/\y=.str j/\Q (.bl (if neg then !(!(Builtin.Str.occurrences j i 0 j.length 1).isEmpty) else !(Builtin.Str.occurrences j i 0 j.length 1).isEmpty)) H
def rInQ (K:W.Frag) (neg:Bool):R2:=fun x y H Q=>Xl neg x y H Q\/L3.rInA K neg x y H Q
theorem anyD (e:Dt) (he:e.cmp=true):∀ (ds:List Dt),cmps ds=true->((toDs ds).any fun d=>L3.eqD d (toD e))=Yf e ds
 | [],_=>by unfold toDs Yf;rfl
 | d::ds,h=>by
  unfold cmps at h;rw [Bool.and_eq_true] at h;unfold Yf;simp only [toDs,List.any_cons];rw [Wn d e h.1 he,anyD e he ds h.2];rfl
def rSumQ (K:W.Frag):List V->Hp->VK->Prop:=fun xs H Q=>∃ (p:Addr) (ns:List Int),xs=[.ref p]/\(CP K H p (ns.map V.int)\/DY K H p (ns.map V.int))/\Q (.int ns.sum) H
theorem Ja (ns:List Int):∀ n,n<=ns.length->preSum (fun i=>(ns[i]?).getD 0) n=(ns.take n).sum:=by
 intro n
 induction n with
 | zero=>intro _;simp [preSum]
 | succ n ih =>
  intro h;have hn:n < ns.length:=by omega
  rw [List.take_add_one,List.sum_append,<- ih (by omega)];simp [preSum,hn]
theorem call_sumQ {X:Cx} (hc:X.calm=true):BE X (.builtin "sum") (rSumQ X.K):=by
 intro pins s σ H xs us Q I r h;obtain ⟨p,ns,rfl,hp,q⟩:=h;obtain ⟨u,rfl,rx⟩:=vals1 r;cases rx;have val:∀ {its:List Value},AE (ns.map V.int) its->∀ (i:Nat) (v:Value),its.toArray[i]?=some v->∃ t,v=.int ((ns[i]?).getD 0) t:=fun rv i v hP=>by
  obtain ⟨x,e1,e2⟩:=rv.get' (i:=i) (u:=v) (by simpa using hP);rw [List.getElem?_map] at e1;cases q:ns[i]? with
  | none=>rw [q] at e1;cases e1
  | some b =>
   rw [q] at e1;have:V.int b=x:=Option.some.inj e1;subst this;obtain ⟨t,rfl⟩:=e2;exact ⟨t,by simp [q]⟩
 have fin:∀ {its:List Value},AE (ns.map V.int) its->preSum (fun i=>(ns[i]?).getD 0) its.toArray.size=ns.sum:=fun rv=>by
  rw [List.size_toArray,<- rv.length,List.length_map,Ja ns _ (Nat.le_refl _),List.take_length]
 rcases hp with hp | hp
 ·obtain ⟨its,rv,pl,hz⟩:=I.list hp;have hl:=pl.isList;have hlt:p < s.heap.objs.size:=by obtain ⟨_,e,_⟩:=hl;exact Heap.lt_size e
  refine call_sum_walkG (wpAny_pyIter_list hl ?_);refine ⟨s.heap.objs.size,[s.heap.objs.size,p],[s.heap.objs.size],its.toArray.size,_,_,fun i=>(ns[i]?).getD 0,rfl,Walks.list (A:=X.A.in1) (I.ok.hd hc) _ p (Nat.ne_of_lt hlt) its.toArray,
   ⟨⟨_,Heap.get?_push_size _ rfl,rfl,rfl⟩,hl.push _⟩,fun b hb=>?_,fun i v hP=>val rv i v hP,fun h' tk t' hk=>?_⟩
  ·rw [Heap.size_push];rcases List.mem_cons.mp hb with z | z
   ·rw [z];exact Nat.lt_succ_self _
   ·have:b=p:=by simpa using z
    rw [this];exact Nat.lt_succ_of_lt hlt
  ·rw [fin rv];exact ⟨.int _,H,I.kept (Qd hk),⟨_,rfl⟩,q⟩
 ·obtain ⟨its,rv,pl,hz⟩:=I.tuple hp;have hl:s.heap.IsTuple p its.toArray:=pl;have hlt:p < s.heap.objs.size:=by obtain ⟨_,e,_⟩:=hl;exact Heap.lt_size e
  refine call_sum_walkG (wpAny_pyIter_tuple hl ?_);refine ⟨s.heap.objs.size,[s.heap.objs.size,p],[s.heap.objs.size],its.toArray.size,_,_,fun i=>(ns[i]?).getD 0,rfl,Walks.tuple (A:=X.A.in1) (I.ok.hd hc) _ p (Nat.ne_of_lt hlt) its.toArray,
   ⟨⟨_,Heap.get?_push_size _ rfl,rfl,rfl⟩,?_⟩,fun b hb=>?_,fun i v hP=>val rv i v hP,fun h' tk t' hk=>?_⟩
  ·obtain ⟨o,e,z⟩:=hl;exact ⟨o,Heap.get?_push_of_some _ e,z⟩
  ·rw [Heap.size_push];rcases List.mem_cons.mp hb with z | z
   ·rw [z];exact Nat.lt_succ_self _
   ·have:b=p:=by simpa using z
    rw [this];exact Nat.lt_succ_of_lt hlt
  ·rw [fin rv];exact ⟨.int _,H,I.kept (Qd hk),⟨_,rfl⟩,q⟩
noncomputable def mxI:List Int->Int
 | []=>0
 | [a]=>a
 | a::r=>max a (mxI r)
theorem mxI_spec:∀ (ns:List Int),ns≠[]->mxI ns∈ns/\∀ a∈ns,a<=mxI ns
 | [],h=>absurd rfl h
 | [a],_=>by simp [mxI]
 | a::b::r,_=>by
  obtain ⟨h1,h2⟩:=mxI_spec (b::r) (by simp);show max a (mxI (b::r))∈_/\∀ c∈a::b::r,c<=max a (mxI (b::r));constructor
  ·rcases Int.le_total a (mxI (b::r)) with h | h
   ·rw [Int.max_eq_right h];exact List.mem_cons_of_mem _ h1
   ·rw [Int.max_eq_left h];exact List.mem_cons_self
  ·intro c hc;rcases List.mem_cons.mp hc with rfl | hc
   ·exact Int.le_max_left _ _
   ·exact Int.le_trans (h2 c hc) (Int.le_max_right _ _)
end
section
end
section
end
section
variable {K:W.Frag}
def rIndexD (K:W.Frag):V->List V->Hp->VK->Prop:=fun x vs H Q=>∃ p xs y ds e j,x=.ref p/\vs=[y]/\CP K H p xs/\L3.IsL K H xs ds/\L3.Is K H y e/\L3.depL ds<=150/\(∃ d,ds[j]?=some d/\L3.eqD d e=true)/\(∀ (m:Nat) (d:L3.D),m < j->ds[m]?=some d->L3.eqD d e=false)/\Q (.int (j:Nat)) H
theorem mt_indexD {X:Cx} {j:Nat} (hr:Room j X.A):Zv X "list.index" (rIndexD X.K):=by
 intro pins s σ H x vs v us Q I rx rv h;obtain ⟨p,xs,y,ds,e,j,rfl,rfl,hp,hds,hy,hdp,⟨dj,ej,hit⟩,hno,q⟩:=h;cases rx;obtain ⟨u,rfl,ru⟩:=rv.one;obtain ⟨its,r,pl,hz⟩:=I.list hp;obtain ⟨⟨cls,dd,data,sl⟩,ho,hc,n,hd⟩:=pl.isList;simp only at hc hd;subst hc hd;have hu:X.A.units+1+150 < cLine:=by have:=hr.un;omega
 have hl:its.length=ds.length:=by rw [<- r.length,hds.length]
 have hj:j < ds.length:=(List.getElem?_eq_some_iff.mp ej).1;have hs:sizeLine=16777216:=sizeLine_eq;have hxl:=r.length;have at_:∀ m (hm:m < its.toArray.size),∃ d,ds[m]?=some d/\L3.eqW its ds e its.toArray[m]=L3.eqD d e:=fun m hm=>by
  have hm':m < its.length:=by simpa using hm
  have hd:ds[m]?=some ds[m]:=List.getElem?_eq_getElem (by omega);exact ⟨ds[m],hd,by simpa using L3.eqW_at I r hds (List.getElem?_eq_getElem hm') hd⟩
 refine call_meets F.slot_list_index ⟨_,ho,rfl⟩ F.entry_list_index (F.args_list_index_2 _ _)
  (SeqAt.list_indexAt p its.toArray n dd sl u (L3.eqW its ds e) j (by simpa [hl] using hj) (by omega) ?_ ?_) ⟨ho,fun w hw=>L3.all_eqW I r hds ru hy hdp hu w (by simpa using hw),⟨.int (j:Nat),H,I.tok _,⟨_,rfl⟩,q⟩⟩
 ·obtain ⟨w,e1,e2⟩:=at_ j (by simpa [hl] using hj);rw [ej] at e1;cases e1;rw [e2];exact hit
 ·intro m hm hlt;obtain ⟨w,e1,e2⟩:=at_ m hm;rw [e2];exact hno m w hlt e1
theorem toDs_get:∀ (ds:List Dt) (i:Nat),(toDs ds)[i]?=(ds[i]?).map toD
 | [],i=>by unfold toDs;simp
 | d::ds,0=>by unfold toDs;simp
 | d::ds,i+1=>by
  have:=toDs_get ds i;simp only [toDs,List.getElem?_cons_succ];exact this
def rIndexTD (K:W.Frag):V->List V->Hp->VK->Prop:=fun x vs H Q=>∃ p xs y ds e j,x=.ref p/\vs=[y]/\H p=some (.tup xs)/\L3.IsL K H xs ds/\L3.Is K H y e/\L3.depL ds<=150/\(∃ d,ds[j]?=some d/\L3.eqD d e=true)/\(∀ (m:Nat) (d:L3.D),m < j->ds[m]?=some d->L3.eqD d e=false)/\Q (.int (j:Nat)) H
theorem mt_indexTD {X:Cx} {j:Nat} (hr:Room j X.A):Zv X "tuple.index" (rIndexTD X.K):=by
 intro pins s σ H x vs v us Q I rx rv h;obtain ⟨p,xs,y,ds,e,j,rfl,rfl,hp,hds,hy,hdp,⟨dj,ej,hit⟩,hno,q⟩:=h;cases rx;obtain ⟨u,rfl,ru⟩:=rv.one;obtain ⟨hz,its,r,⟨cls,dd,data,sl⟩,ho,hc,hdd,n,hd⟩:=I.hok p _ hp;simp only at hc hd;subst hc hd;have hu:X.A.units+1+150 < cLine:=by have:=hr.un;omega
 have hl:its.length=ds.length:=by rw [<- r.length,hds.length]
 have hj:j < ds.length:=(List.getElem?_eq_some_iff.mp ej).1;have at_:∀ m (hm:m < its.toArray.size),∃ d,ds[m]?=some d/\L3.eqW its ds e its.toArray[m]=L3.eqD d e:=fun m hm=>by
  have hm':m < its.length:=by simpa using hm
  have hd:ds[m]?=some ds[m]:=List.getElem?_eq_getElem (by omega);exact ⟨ds[m],hd,by simpa using L3.eqW_at I r hds (List.getElem?_eq_getElem hm') hd⟩
 refine call_meets F.slot_tuple_index ⟨_,ho,rfl⟩ F.entry_tuple_index (F.args_tuple_index_2 _ _)
  (Gu p its.toArray n dd sl u (L3.eqW its ds e) j (by simpa [hl] using hj) ?_ ?_) ⟨ho,fun w hw=>L3.all_eqW I r hds ru hy hdp hu w (by simpa using hw),⟨.int (j:Nat),H,I.tok _,⟨_,rfl⟩,q⟩⟩
 ·obtain ⟨w,e1,e2⟩:=at_ j (by simpa [hl] using hj);rw [ej] at e1;cases e1;rw [e2];exact hit
 ·intro m hm hlt;obtain ⟨w,e1,e2⟩:=at_ m hm;rw [e2];exact hno m w hlt e1
end
section
end
section
variable {K:W.Frag}
noncomputable def isSub (k T:String):Bool:=k == T || (k == "bool" && T == "int")
theorem kit_ok (K:W.Frag) {k T:String} (hk:k∈["NoneType", "bool", "int", "str", "tuple", "list"]) (hT:T∈["int", "bool", "str", "tuple", "list"]):W.kitOne K (.type k) (.type T)=some (isSub k T):=by
 simp only [List.mem_cons,List.not_mem_nil,or_false] at hk hT;rcases hk with rfl | rfl | rfl | rfl | rfl | rfl<;>rcases hT with rfl | rfl | rfl | rfl | rfl<;>kernel_rfl
end
section
end
section
end
theorem YV {X:Cx}:Bx X (compareOp .In) (Xl false):=NZ
theorem NY {X:Cx}:Bx X (compareOp .NotIn) (Xl true):=IS
theorem op_inQ {X:Cx} {j:Nat} (hr:Room j X.A):Bx X (compareOp .In) (rInQ X.K false):=YV.or (L3.op_inA hr)
theorem op_notInQ {X:Cx} {j:Nat} (hr:Room j X.A):Bx X (compareOp .NotIn) (rInQ X.K true):=NY.or (L3.op_notInA hr)
noncomputable abbrev tI (xs:List Int):Dt:=.tup (xs.map .int)
end Q
set_option maxHeartbeats 2000000
set_option maxHeartbeats 2000000
namespace L2
open PySem PySem.Spec PyProof.Rows
noncomputable def cT (ifs:List Expr) (env:Env):Sem Bool:=forIn ifs true fun c r=>if r=true then do let ok <- isTrue c env (eval c env);pure (ForInStep.yield ok) else pure (ForInStep.yield r)
def Sv (X:Cx) (ifs:List Expr) (t:TT):Prop:=
 ∀ (pins:List (Addr×Obj)) (s:Shared) (σ:St) (H:Hp) (Q:Bool->Hp->Prop),Inv X pins σ H s->t σ H Q->wpAny (model X.prog X.w) X.A (cT ifs X.env) (TP X pins σ Q) X.xe s
theorem Sv.one {X:Cx} {c:Expr} {t:TT} (h:PT X c t):Sv X [c] t:=fun pins s σ H Q I q=>wpAny_tests_one (h pins s σ H Q I q)
theorem Im {prog:Program} {w:World} {A:Around} {R:Result->Shared->Prop} {s:Shared} {elt target iter:Expr} {ifs:List Expr} {scope:Scope} {pos:Pos} {it acc:Value} {env:Env} (I:Nat->Shared->Prop)
    (turn:∀ n s,I n s->wpAny (model prog w) A (pyNext it) (fun r s₁=>match r with
      | none=>R (.ok .next) s₁
      | some v=>wpAny (model prog w) A (letOwnedTupleGo target it v) (fun _ s₂=>wpAny (model prog w) A (assign target env v) (fun _ s₃=>wpAny (model prog w) A (cT ifs env) (fun ok s₄=>if ok=true then wpAny (model prog w) A (eval elt env) (fun x s₅ =>
          wpAny (model prog w) A (call (.builtin "list.append") [acc,x]) (fun _ s₆=>∃ m,m < n/\I m s₆) (fun _ _=>False) s₅) (fun _ _=>False) s₄ else ∃ m,m < n/\I m s₄) (fun _ _=>False) s₃) (fun _ _=>False) s₂) (fun _ _=>False) s₁) (fun _ _=>False) s)
    (n:Nat) (h:I n s) :
    codeAny (model prog w) A (.compLoop (.ListComp elt [⟨target,iter,ifs,0⟩] scope pos) 0 it acc env) R s:=by
  refine codeAny_loop rfl I (fun n s hI=>?_) n h;show wpAny _ _ ((compTurn (.ListComp elt [⟨target,iter,ifs,0⟩] scope pos) 0 it acc env).onRaise (fun x=>do noteFrame x env;theTreesLotGoes x)) _ _ s;refine wpAny_noted ?_;rw [compTurn_list];have no:∀ {E:Value->Shared->Prop},∀ (e:Value) (s:Shared),False->E e s:=fun _ _ z=>z.elim
  refine wpAny_bind (wpAny_standAt (wpAny_bind (wpAny_mono (turn n s hI) (fun r s₁ h₁=>?_) no)));cases r with
  | none=>exact wpAny_pure h₁
  | some v =>
    refine wpAny_bind (wpAny_mono h₁ (fun _ s₂ h₂=>?_) no);refine wpAny_bind (wpAny_mono h₂ (fun _ s₃ h₃=>wpAny_bind (wpAny_mono h₃ (fun ok s₄ h₄=>?_) no)) no);cases ok with
    | false=>exact wpAny_pure ⟨rfl,h₄⟩
    | true=>exact wpAny_bind (wpAny_bind (wpAny_mono h₄ (fun x s₅ h₅=>wpAny_bind (wpAny_mono h₅ (fun _ s₆ h₆=>wpAny_pure (wpAny_pure ⟨rfl,h₆⟩)) no)) no))
section
variable {X:Cx} {tg iter elt:Expr} {ifs:List Expr} {scope:Scope} {pos:Pos} {g:TG} {te:TE} {tc:TT} {js:List Nat} {wi:TI}
def Ly (js:List Nat) (g:TG) (tc:TT) (te:TE) (J:It) (σ:St) (Fin:List V->Hp->Prop) (W:Nat->Nat->List V->Hp->Prop):Prop:=∀ i m ys H,W i m ys H ->
 (J.stop i H/\Fin ys H)\/(J.go i H/\ys.length < sizeLine/\∃ N:List V->Hp->Prop,(∀ zs H',N zs H'->∃ m',m' < m/\W (i+1) m' zs H')/\∀ x H',J.yld i H x H'->g x (blank js σ) H' fun σ2 H2=>tc σ2 H2 fun b H3=>if b=true then te σ2 H3 fun v H4=>N (ys++[v]) H4 else N ys H3)
theorem FM {pins:List (Addr×Obj)} {s2:Shared} {σ:St} {H2:Hp} {it:Addr} {fp:List Addr} {tn:Nat->Heap->Prop} {J:It} {cl:List (Str×Addr)} {W:Nat->Nat->List V->Hp->Prop} {Fin:List V->Hp->Prop} {E:Value->Shared->Prop} {RR:Value->Addr->Result->Shared->Prop}
    (hin:InnerIn X.N X.env.scope scope js) (hc:X.calm=true) (hg:∀ cl C s H fp,PG (X.inner scope cl C s H fp) tg g) (hgo:Oq js g) (hcn:∀ cl C s H fp,Sv (X.inner scope cl C s H fp) ifs tc) (he:∀ cl C s H fp,PE (X.inner scope cl C s H fp) elt te)
    (I2:Inv X pins σ H2 s2) (T:Turn X.prog X.w X.K tg J fp it tn) (t0:tn 0 s2.heap) (hf:∀ b∈fp,FpOk X pins H2 b)
    (hcl:∀ x c,cl.lookup x=some c->X.env.cells.lookup x=some c) (hfr:∀ x,scope.names.lookup x=some .free->∃ c,cl.lookup x=some c)
    {m0:Nat} (w0:W 0 m0 [] H2) (turn:Ly js g tc te J σ Fin W)
    (hRR:∀ D C s' H' ys m,Inv X pins σ (upd H' D (.lst ys)) s'->H' D=none->Fin ys H'->s'.heap.Ns C m->C≠X.env.locals->X.s₀.heap.objs.size<=C->(∀ x c,X.env.cells.lookup x=some c->c≠C)->(∀ p∈X.pn++pins,p.1≠C)->H' C=none->D≠C->RR (.ref D) C (.ok .next) s') :
    wpAny (model X.prog X.w) X.A (newList []) (fun acc s₃=>wpAny (model X.prog X.w) X.A (newFunctionEnv scope X.env.globals cl [] X.env.qual none .none (some X.env)) (fun cenv s₄ =>
      codeAny (model X.prog X.w) X.A (.compStart (.ListComp elt [⟨tg,iter,ifs,0⟩] scope pos) 0 (.ref it) acc { cenv with scope:=relabel scope X.env }) (RR acc cenv.locals) s₄) E s₃) E s2:=by
  have hfe:∀ b∈fp,b < s2.heap.objs.size:=fun b hb=>let ⟨_,e,_⟩:=T.obj _ _ t0 b hb;Heap.lt_size e
  refine wpAny_newObj_type (Bg ?_);dsimp only
  generalize hHH:s2.heap.push { cls:=.type "list", dict:=none,data:=.seq ([]:List Value).toArray }=HH
  have hC:HH.objs.size=s2.heap.objs.size+1:=by rw [<- hHH,Heap.size_push]
  have hDC:s2.heap.objs.size≠HH.objs.size:=by rw [hC];exact Nat.ne_of_lt (Nat.lt_succ_self _)
  have hCle:s2.heap.objs.size<=HH.objs.size:=by rw [hC];exact Nat.le_succ _
  have below:∀ b,b < s2.heap.objs.size->b≠HH.objs.size/\b≠s2.heap.objs.size:=fun b hb=>⟨by rw [hC];exact Nat.ne_of_lt (Nat.lt_succ_of_lt hb),Nat.ne_of_lt hb⟩
  obtain ⟨h₁,hh₁⟩:∃ h₁,pushCells (HH.push { cls:=.type "dict", data:=.dict #[] }) scope.names=h₁:=⟨_,rfl⟩
  have old:∀ b o,s2.heap.get? b=some o->h₁.get? b=some o:=fun b o e=>hh₁▸pushCells_keeps _ _ b o (Heap.get?_push_of_some _ (hHH▸Heap.get?_push_of_some _ e))
  have hacc:h₁.get? s2.heap.objs.size=some { cls:=.type "list", data:=.seq ([]:List Value).toArray 0 }:=hh₁▸pushCells_keeps _ _ _ _ (Heap.get?_push_of_some _ (hHH▸Heap.get?_push_size _ rfl))
  have hns₁:h₁.Ns HH.objs.size (fun _=>none):=hh₁▸(Heap.Ns.new HH (.type "dict")).keeps (pushCells_keeps _ _)
  obtain ⟨L,hown⟩:=VR (s:=s2) (C:=HH.objs.size) hin hcl hfr (h:=HH.push { cls:=.type "dict", data:=.dict #[] }) hCle (Heap.size_push ..)
  rw [hh₁] at hown ⊢;generalize hcc:cellsFrom (HH.objs.size+1) scope.names cl=cl' at L hown ⊢;clear hh₁ hcc;generalize hDD:s2.heap.objs.size=D at *;generalize hCC:HH.objs.size=C at *;have hDle:s2.heap.objs.size<=D:=Nat.le_of_eq hDD;have hCle':s2.heap.objs.size<=C:=by rw [hDD];exact hCle
  have nocell:∀ (its:List Value) (n:Nat) v,({ cls:=.type "list", data:=.seq its.toArray n }:Obj).data≠.cell v:=fun _ _ _ z=>by cases z
  have I4:Inv (X.inner scope cl' C s2 H2 fp) (pins++[(D,{ cls:=.type "list", data:=.seq ([]:List Value).toArray 0 })]) (blank js σ) H2 { s2 with heap:=h₁,toks:=s2.toks }:=
    I2.enter hin hf (by rw [hDD];exact hfe) hCle' hDle hDC L hown old hns₁ hacc (nocell _ _)
  have stat:∀ {H':Hp} {o:Obj},(∀ b∈fp,H' b=none)->∀ b∈fp,FpOk (X.inner scope cl' C s2 H2 fp) (pins++[(D,o)]) H' b:=fun {H' o} hn b hb=>by
    obtain ⟨_,f1,f2,f3,f4,f5⟩:=hf b hb;refine ⟨hn b hb,(below b (hfe b hb)).1,fun z=>?_,.inl hb,fun x c e=>L.ne e (by rw [hDD];exact hfe b hb) f4,fun p hp=>?_⟩
    · rcases List.mem_cons.mp (I2.stkSub b z) with e | e
      · exact f1 e
      · exact f2 e
    · have hp':p∈X.pn++(pins++[(D,o)]):=hp;rw [<- List.append_assoc] at hp';rcases List.mem_append.mp hp' with z | z
      · exact f5 p z
      · have e:p=(D,o):=by simpa using z
        subst e;exact fun z=>(below b (hfe b hb)).2 z.symm
  have loop:∀ s₃:Shared,s₃={ s2 with heap:=h₁,toks:=s2.toks } ->
      codeAny (model X.prog X.w) X.A (.compLoop (.ListComp elt [⟨tg,iter,ifs,0⟩] scope pos) 0 (.ref it) (.ref D) (compEnvC scope cl' C X.env)) (RR (.ref D) C) s₃:=by
    rintro s₃ rfl
    refine Im (fun n s'=>∃ i ys its k H',Inv (X.inner scope cl' C s2 H2 fp) (pins++[(D,{ cls:=.type "list", data:=.seq its.toArray k })]) (blank js σ) H' s'/\tn i s'.heap/\(∀ b∈fp,H' b=none)/\AE ys its/\ys.length<=sizeLine/\W i n ys H') ?_ m0
      ⟨0,[],[],0,H2,I4,T.keep _ _ _ t0 fun b hb o e=>old b o e,fun b hb=>(hf b hb).1,.nil,Nat.zero_le _,w0⟩
    rintro n s3 ⟨i,ys,its,k,H3,I3,st3,fr3,hv3,hz3,w3⟩;rcases turn i n ys H3 w3 with ⟨stop,fin⟩ | ⟨go,hlt,N,hN,step⟩
    · refine Al (T.done (X.inner scope cl' C s2 H2 fp) rfl rfl rfl hc i _ s3 _ H3 _ I3 (stat fr3) st3 stop) fun r s4 ⟨hr,I4⟩=>?_
      subst hr
      have pD:=I4.pin (D,{ cls:=.type "list", data:=.seq its.toArray k }) (List.mem_append_right _ (List.mem_append_right _ List.mem_cons_self))
      obtain ⟨m,hn,_⟩:=id I4.loc;refine hRR D C s4 H3 ys m (I2.leave (fp:=fp) hf rfl I4 hDle pD.2.1 hz3 hv3 pD.1) pD.2.1 fin hn ?_ ?_ (fun x c e=>?_) (fun p hp=>?_) I4.free hDC
      · exact Nat.ne_of_gt (Nat.lt_of_lt_of_le I2.lt hCle')
      · exact Nat.le_trans I2.sz hCle'
      · exact Nat.ne_of_lt (Nat.lt_of_lt_of_le (I2.cellLt e) hCle')
      · exact Nat.ne_of_lt (Nat.lt_of_lt_of_le (I2.pinLt hp) hCle')
    · refine Al (T.item (X.inner scope cl' C s2 H2 fp) rfl rfl rfl hc i _ s3 _ H3 _ I3 (stat fr3) st3 go) fun r s4 ⟨u,hr,h4⟩=>?_
      subst hr;refine Al h4 fun _ s5 ⟨x,H5,I5,r5,y5,st5,fr5⟩=>?_
      have I5':=I5.pinned (stat fr5) (T.obj _ _ st5);refine Al (hg cl' C s2 H2 fp _ s5 _ H5 x u _ I5' r5 (hgo _ _ _ _ (step x H5 y5))) fun _ s6 ⟨σ6,H6,I6,⟨hl6,hs6⟩,q6⟩=>?_
      refine Al (hcn cl' C s2 H2 fp _ s6 σ6 H6 _ I6 q6) fun ok s6b ⟨H6b,I6b,q6b⟩=>?_
      have other:∀ (s7:Shared) (v:Value) (b:Addr) (u:Obj),b≠D->s7.heap.get? b=some u->(s7.heap.update D (Obj.mapSeq fun a=>a.push v)).get? b=some u:=fun s7 v b u hb hu=>(Heap.get?_update_other s7.heap (Obj.mapSeq fun a=>a.push v) (Ne.symm hb)).trans hu
      cases ok with
      | false =>
        obtain ⟨m',hm,w7⟩:=hN _ _ q6b
        have pD:=I6b.pin (D,{ cls:=.type "list", data:=.seq its.toArray k }) (List.mem_append_right _ (List.mem_append_left _ (List.mem_append_right _ List.mem_cons_self)))
        have fpk:∀ b∈fp,∀ o,s5.heap.get? b=some o->s6b.heap.get? b=some o/\H6b b=none:=fun b hb o e =>
          let z:=I6b.pin (b,o) (List.mem_append_right _ (List.mem_append_right _ (CW hb e)));⟨z.1,z.2.1⟩
        have I8:Inv (X.inner scope cl' C s2 H2 fp) pins (blank js σ) H6b s6b:=by
          have Ia:Inv (X.inner scope cl' C s2 H2 fp) pins σ6 H6b s6b:=I6b.pins_of fun p hp=>I6b.pin p (List.mem_append_right _ (List.mem_append_left _ (List.mem_append_left _ hp)))
          exact Ia.weak hl6.symm fun i v e=>by
            obtain ⟨hj,_⟩:=FE js σ i v e;rw [hs6 i hj];exact e
        refine ⟨m',hm,i+1,ys,its,k,H6b,I8.pins_of (fun p hp=>?_),T.keep _ _ _ st5 fun b hb o e=>(fpk b hb o e).1,fun b hb=>?_,hv3,hz3,w7⟩
        · rcases List.mem_append.mp hp with z | z
          · exact I8.pin p (List.mem_append_right _ z)
          · have e:p=(D,_):=List.mem_singleton.mp z;subst e;exact ⟨pD.1,pD.2.1,pD.2.2.1,pD.2.2.2.1,nocell _ _⟩
        · obtain ⟨o,e,_⟩:=T.obj _ _ st5 b hb;exact (fpk b hb o e).2
      | true =>
      refine Al (he cl' C s2 H2 fp _ s6b σ6 H6b _ I6b q6b) fun v s7 ⟨y,H7,I7,r7,n7⟩=>?_
      obtain ⟨m',hm,w7⟩:=hN _ _ n7
      have pD:=I7.pin (D,{ cls:=.type "list", data:=.seq its.toArray k }) (List.mem_append_right _ (List.mem_append_left _ (List.mem_append_right _ List.mem_cons_self)))
      have lt:its.toArray.size<=sizeLine:=by rw [List.size_toArray,<- hv3.length];exact hz3
      refine call_meets F.slot_list_append ⟨_,pD.1,rfl⟩ F.entry_list_append (F.args_list_append_2 _ _) (PySem.list_append D its.toArray k v lt) ⟨pD.1,?_⟩
      obtain ⟨k',q⟩:∃ k',(s7.heap.update D (Obj.mapSeq fun a=>a.push v)).get? D=some { cls:=.type "list", data:=.seq (its.toArray.push v) k' }:=⟨_,PySem.IsL.update pD.1 (fun a=>a.push v)⟩
      have eq:(its.toArray.push v)=(its++[v]).toArray:=by simp
      have fpk:∀ b∈fp,∀ o,s5.heap.get? b=some o->s7.heap.get? b=some o/\H7 b=none:=fun b hb o e =>
        let z:=I7.pin (b,o) (List.mem_append_right _ (List.mem_append_right _ (CW hb e)));⟨z.1,z.2.1⟩
      have other:∀ b u,b≠D->s7.heap.get? b=some u->(s7.heap.update D (Obj.mapSeq fun a=>a.push v)).get? b=some u:=fun b u hb hu=>(Heap.get?_update_other s7.heap (Obj.mapSeq fun a=>a.push v) (Ne.symm hb)).trans hu
      have I8:Inv (X.inner scope cl' C s2 H2 fp) pins (blank js σ) H7 { s7 with heap:=s7.heap.update D (Obj.mapSeq fun a=>a.push v),toks:=s7.toks }:=by
        have Ia:Inv (X.inner scope cl' C s2 H2 fp) pins σ6 H7 s7:=I7.pins_of fun p hp=>I7.pin p (List.mem_append_right _ (List.mem_append_left _ (List.mem_append_left _ hp)))
        have Ib:Inv (X.inner scope cl' C s2 H2 fp) pins (blank js σ) H7 s7:=Ia.weak hl6.symm fun i v e=>by
          obtain ⟨hj,_⟩:=FE js σ i v e;rw [hs6 i hj];exact e
        refine Ib.turned (it:=D) (fun b o hb e=>other b o hb e) pD.2.1 pD.2.2.1 (.inr hDle) (fun x c e=>?_) (fun p hp=>?_)
        · cases q:AL scope x with
          | false=>exact Nat.ne_of_lt (Nat.lt_of_lt_of_le (I2.cellLt (L.old x c e q)) hDle)
          | true=>exact Nat.ne_of_gt (Nat.lt_of_le_of_lt hCle (L.own x c e q).2)
        · exact Nat.ne_of_lt (Nat.lt_of_lt_of_le (I2.pinLt hp) hDle)
      refine ⟨m',hm,i+1,ys++[y],its++[v],k',H7,I8.pins_of (fun p hp=>?_),T.keep _ _ _ st5 fun b hb o e=>other b o (below b (hfe b hb)).2 (fpk b hb o e).1,fun b hb=>?_,hv3.append (.cons r7 .nil),by rw [List.length_append,List.length_singleton];omega,w7⟩
      · rcases List.mem_append.mp hp with z | z
        · exact I8.pin p (List.mem_append_right _ z)
        · have e:p=(D,_):=List.mem_singleton.mp z;subst e;rw [<- eq];exact ⟨q,pD.2.1,pD.2.2.1,pD.2.2.2.1,nocell _ _⟩
      · obtain ⟨o,e,_⟩:=T.obj _ _ st5 b hb;exact (fpk b hb o e).2
  exact codeAny_compStart_list (loop _ rfl) (T.self _ 0 _ _ _ (T.keep _ _ _ t0 fun b hb o e=>old b o e) (loop _ rfl))
def EZ (wi:TI) (js:List Nat) (g:TG) (tc:TT) (te:TE):TE:=fun σ H Q=>wi σ H fun J H1=>∃ W:Nat->Nat->List V->Hp->Prop,(∃ m,W 0 m [] H1)/\Ly js g tc te J σ (fun ys H=>∀ p,H p=none->Q (.ref p) (upd H p (.lst ys))) W
theorem Jd (hin:innerOk X.N X.env.scope scope js=true) (hc:X.calm=true) (hi:PI X tg iter wi) (hg:∀ cl C s H fp,PG (X.inner scope cl C s H fp) tg g) (hgo:Oq js g) (hcn:∀ cl C s H fp,Sv (X.inner scope cl C s H fp) ifs tc) (he:∀ cl C s H fp,PE (X.inner scope cl C s H fp) elt te)
    (hs:∀ x,foldedSetIterable iter X.env x=pure x:=by intro _;rfl):PE X (.ListComp elt [⟨tg,iter,ifs,0⟩] scope pos) (EZ wi js g tc te):=by
  intro pins s σ H Q I h;have hin:=GZ hin;obtain ⟨cl,hclos,hcl,hfr⟩:=Gh (scope:=scope) (env:=X.env) (fun x hx=>I.ok.has x (hin.fr x hx)) hin.uniqF;rw [eval_ListComp];refine wpAny_comprehension_free (use:=none) rfl hs hclos hin.kind hin.uniqL ?_;refine Al (hi pins s σ H _ I h) fun v s1 h1=>Al h1 fun itv s2 h2=>?_
  obtain ⟨it,fp,tn,J,H2,e,I2,T,st2,f2,W,⟨m0,w0⟩,turn⟩:=h2;subst e;refine FM (RR:=fun acc C=>compPost (model X.prog X.w) X.A X.xe none (EP X pins σ Q) acc C) hin hc hg hgo hcn he I2 T st2 f2 hcl hfr w0 turn ?_;intro D C s' H' ys m I' hD fin hn c1 c2 c3 c4 c5 c6;refine ⟨m,hn,fun h' sb=>⟨.ref D,_,I'.turned (t':=s'.toks) (it:=C) (fun b o hb e=>(sb.2 b hb).trans e) ?_ c1 (.inr c2) c3 c4,rfl,fin D hD⟩⟩;rw [AQ (Ne.symm c6)];exact c5
theorem JY {i:Nat} {x:Str} {pos' spos:Pos} (hN:X.N.Nodup) (hix:X.N[i]?=some x) (hx:Loc X.env.scope x)
    (hin:innerOk X.N X.env.scope scope js=true) (hc:X.calm=true) (hi:PI X tg iter wi) (hg:∀ cl C s H fp,PG (X.inner scope cl C s H fp) tg g) (hgo:Oq js g) (hcn:∀ cl C s H fp,Sv (X.inner scope cl C s H fp) ifs tc) (he:∀ cl C s H fp,PE (X.inner scope cl C s H fp) elt te)
    (hsw:swapsWith (.ListComp elt [⟨tg,iter,ifs,0⟩] scope pos) (some (.Name x pos')) spos.line X.env=pure true:=by rfl)
    (hs:∀ x,foldedSetIterable iter X.env x=pure x:=by intro _;rfl)
    (hf:X.fn x=true\/X.env.scope.names.lookup x=some .local:=by first | exact .inl rfl | exact .inr rfl | assumption) :
    PS X (.Assign [.Name x pos'] (.ListComp elt [⟨tg,iter,ifs,0⟩] scope pos) spos) (Km (EZ wi js g tc te) (Cv i)):=by
  intro pins s σ H D I h;have hin:=GZ hin;obtain ⟨cl,hclos,hcl,hfr⟩:=Gh (scope:=scope) (env:=X.env) (fun x hx=>I.ok.has x (hin.fr x hx)) hin.uniqF;rw [exec_Assign_Name_used _ _ _ _ hsw];refine wpAny_bind (wpAny_standAt (wpAny_bind ?_));show wpAny _ _ (do let _ <- comprehension (.ListComp elt [⟨tg,iter,ifs,0⟩] scope pos) scope X.env _ (newList []) false (eval iter X.env) (some (assign (.Name x pos') X.env))) _ _ s;refine wpAny_bind (Al (wpAny_comprehension_free (use:=some (assign (.Name x pos') X.env)) (Q:=fun _ s'=>SP X pins D .next s') rfl hs hclos hin.kind hin.uniqL ?_) (fun _ s' hq=>wpAny_pure (wpAny_pure hq)));refine Al (hi pins s σ H _ I h) fun v s1 h1=>Al h1 fun itv s2 h2=>?_
  obtain ⟨it,fp,tn,J,H2,e,I2,T,st2,f2,W,⟨m0,w0⟩,turn⟩:=h2;subst e;refine FM (RR:=fun acc C=>compPost (model X.prog X.w) X.A X.xe (some (assign (.Name x pos') X.env)) (fun _ s'=>SP X pins D .next s') acc C) hin hc hg hgo hcn he I2 T st2 f2 hcl hfr w0 turn ?_;intro DD C s' H' ys m I' hD fin hn c1 c2 c3 c4 c5 c6;show wpAny _ _ (assign (.Name x pos') X.env (.ref DD)) _ _ _;refine wpAny_assign_Name (HK (v:=.ref DD) I' hN hix hx rfl (fun s'' I'' ⟨a,sb,ha⟩=>?_) hf);have ne:C≠a:=by
    rcases ha with z | z
    · rw [z];exact c1
    · exact (c3 x a z).symm
  refine ⟨m,hn.sameBut sb ne,fun h' sb'=>⟨_,_,I''.turned (t':=s''.toks) (it:=C) (fun b o hb e=>(sb'.2 b hb).trans e) ?_ c1 (.inr c2) c3 c4,fin DD hD⟩⟩;rw [AQ (Ne.symm c6)];exact c5
end
end L2
namespace R
open PySem L2
section
variable {γ:Type}
noncomputable def BD (g:Dv->γ->Option (Dv×γ)):List Dv->γ->Option (List Dv×γ)
 | [],c=>some ([],c)
 | x::xs,c=>(g x c).bind fun p=>(BD g xs p.2).bind fun q=>some (p.1::q.1,q.2)
noncomputable def Az (g:Dv->Option Dv):List Dv->Option (List Dv)
 | []=>some []
 | x::xs=>(g x).bind fun p=>(Az g xs).bind fun q=>some (p::q)
noncomputable def Mo (g:Dv->γ->Option (Option Dv×γ)):List Dv->γ->Option (List Dv×γ)
 | [],c=>some ([],c)
 | x::xs,c=>(g x c).bind fun p=>(Mo g xs p.2).bind fun q=>some (match p.1 with | some d=>d::q.1 | none=>q.1,q.2)
noncomputable def Yg (g:Dv->Option (Option Dv)):List Dv->Option (List Dv)
 | []=>some []
 | x::xs=>(g x).bind fun p=>(Yg g xs).bind fun q=>some (match p with | some d=>d::q | none=>q)
noncomputable def EV {α:Type} (xs:List Dv) (o:Option α):Option α:=if xs.length<=1000000 then o else none
end
theorem EM {α:Type} {xs:List Dv} {o:Option α} {a:α} (h:EV xs o=some a):xs.length<=1000000/\o=some a:=by
 unfold EV at h;split at h
 ·rename_i z;exact ⟨z,h⟩
 ·cases h
section
variable {K:W.Frag} {g g':G} {H H':Hp} {Γ:Gm} {m:M} {σ:St} {P:Fp}
theorem Rel.sub {Γ':Gm} {σ':St} (h:Rel K g H Γ m σ P) (hl:Γ'.length=Γ.length) (hs:σ'.length=σ.length) (k:∀ (i o:Nat),Γ'[i]?=some (some o)->Γ[i]?=some (some o)/\σ'[i]?=σ[i]?):∃ P',Rel K g H Γ' m σ' P'/\∀ a,P' a->P a:=by
 obtain ⟨zd,F,h1,h4⟩:=h;refine ⟨fun a=>∃ i,(∃ o,Γ'[i]?=some (some o))/\F i a,⟨zd,fun i a=>(∃ o,Γ'[i]?=some (some o))/\F i a,⟨by rw [hl];exact h1.l1,by rw [hs,hl];exact h1.l2,fun i o e=>?_,fun i e a q=>q.1.elim fun o z=>e o z,fun i j n a q z=>h1.dj i j n a q.2 z.2⟩,fun _=>Iff.rfl⟩,fun a ⟨i,_,q⟩=>(h4 a).mpr ⟨i,q⟩⟩;obtain ⟨e',es⟩:=k i o e;obtain ⟨d,v,e1,e2,r⟩:=h1.rep i o e';have eq:(fun a=>(∃ o,Γ'[i]?=some (some o))/\F i a)=F i:=funext fun a=>propext ⟨fun z=>z.2,fun z=>⟨⟨o,e⟩,z⟩⟩
 exact ⟨d,v,e1,by rw [es];exact e2,by show Rep K g H o d v fun a=>(∃ o,Γ'[i]?=some (some o))/\F i a;rw [eq];exact r⟩
theorem Rel.more {Γ':Gm} {σ':St} (h:Rel K g H Γ m σ P) (hl:Γ'.length=Γ.length) (hs:σ'.length=σ.length) (k:∀ (i o:Nat),Γ'[i]?=some (some o)->(Γ[i]?=some (some o)/\σ'[i]?=σ[i]?)\/(o=0/\∃ d v,m[i]?=some d/\σ'[i]?=some (some v)/\Rep K g H 0 d v nop)):∃ P',Rel K g H Γ' m σ' P'/\∀ a,P' a->P a:=by
 obtain ⟨zd,F,h1,h4⟩:=h
 let C:Nat->Prop:=fun i=>∃ o,Γ'[i]?=some (some o)/\Γ[i]?=some (some o)/\σ'[i]?=σ[i]?
 refine ⟨fun a=>∃ i,C i/\F i a,⟨zd,fun i a=>C i/\F i a,⟨by rw [hl];exact h1.l1,by rw [hs,hl];exact h1.l2,fun i o e=>?_,fun i e a q=>q.1.elim fun o z=>e o z.1,fun i j n a q z=>h1.dj i j n a q.2 z.2⟩,fun _=>Iff.rfl⟩,fun a ⟨i,_,q⟩=>(h4 a).mpr ⟨i,q⟩⟩
 by_cases c:C i
 ·obtain ⟨o',e1,e2,e3⟩:=c;rw [e] at e1;cases e1;obtain ⟨d,v,e4,e5,r⟩:=h1.rep i o e2;have eq:(fun a=>C i/\F i a)=F i:=funext fun a=>propext ⟨fun z=>z.2,fun z=>⟨⟨o,e,e2,e3⟩,z⟩⟩
  exact ⟨d,v,e4,by rw [e3];exact e5,by show Rep K g H o d v fun a=>C i/\F i a;rw [eq];exact r⟩
 ·have eq:(fun a=>C i/\F i a)=nop:=nop_iff fun a z=>c z.1
  rcases k i o e with z | ⟨rfl,d,v,e1,e2,r⟩
  ·exact (c ⟨o,e,z⟩).elim
  ·exact ⟨d,v,e1,e2,by show Rep K g H 0 d v fun a=>C i/\F i a;rw [eq];exact r⟩
end
def KQ (js:List Nat) (Γ:Gm):Gm:=(List.range Γ.length).map fun i=>if js.contains i then none else Γ.getD i none
def JO (js:List Nat) (Γ1 Γ:Gm):Gm:=(List.range Γ.length).map fun i=>if js.contains i then (if Γ1.getD i none == some 0 then some 0 else none) else Γ.getD i none
theorem DK {α:Type} {n i:Nat} {f:Nat->α} {x:α} (h:((List.range n).map f)[i]?=some x):i < n/\x=f i:=by
 rw [List.getElem?_map] at h
 by_cases z:i < n
 ·rw [List.getElem?_range z] at h;exact ⟨z,(Option.some.inj h).symm⟩
 ·rw [List.getElem?_eq_none_iff.mpr (by simpa using z)] at h;cases h
theorem BQ {Γ:Gm} {i o:Nat} (h:Γ.getD i none=some o):Γ[i]?=some (some o):=by
 rw [List.getD_eq_getElem?_getD] at h;cases e:Γ[i]? with
 | none=>rw [e] at h;cases h
 | some x=>rw [e] at h;exact congrArg some h
theorem CZ {js:List Nat} {Γ:Gm} {i o:Nat} (h:(KQ js Γ)[i]?=some (some o)):i∉js/\Γ[i]?=some (some o):=by
 obtain ⟨_,e⟩:=DK h;split at e
 ·cases e
 ·rename_i z;exact ⟨fun q=>z (List.contains_iff_mem.mpr q),BQ e.symm⟩
theorem Hu (js:List Nat):∀ (σ:St) (i:Nat),i∉js->(L2.blank js σ)[i]?=σ[i]?:=by
 induction js with
 | nil=>intro σ i _;rfl
 | cons j js ih =>
  intro σ i h;show (L2.blank js (σ.set j none))[i]?=_;rw [ih _ i fun z=>h (List.mem_cons_of_mem _ z),List.getElem?_set_ne fun z=>h (by rw [<- z];exact List.mem_cons_self)]
theorem ER {K:W.Frag} {Γ1 Γl Γt Γc Γf:Gm} {jx jt jc jf J:List Nat} {g:TG} {ft:Tg} {c:Ev Bool} {f:Ev Dv} (ht:Ls K Γl Γt jt g ft) (hbl:BP Γl (KQ jx Γ1)=true) (hwf:BP Γl Γf=true) (hwc:BP Γl Γc=true) (hsx:∀ i∈jt,i∈jx)
    (hJ:J=Au Γl (jt++(jc++jf))) {ds:List Dv} (hz:ds.length<=1000000) {m1:M} {σ:St} {H1:Hp} {g1:G} {P1:Fp} {I:It} {R:Type} {k:Dv->M->Option R} {res:R} {Q:VK}
    (r1:Rel K g1 H1 Γ1 m1 σ P1) (yl:Yl K I ds g1 H1) (run:List Dv->DX J->List Dv->Prop) (h0:run ds (AU J m1) []) (hn:∀ t ya,run [] t ya->k (.lst ya) (AX J m1 t)=some res)
    (hc:∀ d ds t ya,run (d::ds) t ya->∃ (B:Type) (kx:Dv->M->Option B) (kf:M->Option B) (r:B),ft B d (AX J m1 t) (fun m2=>c B m2 fun b m3=>if b=true then f B m3 kx else kf m3)=some r/\(∀ x m',kx x m'=some r->run ds (AU J m') (ya++[x]))/\∀ m',kf m'=some r->run ds (AU J m') ya)
    (q:∀ d m' g' P' Pv v H',k d m'=some res->BU (jt++(jc++jf)) m1 m'->Step g1 P1 H1 g' (fun a=>P' a\/Pv a) H'->Rep K g' H' 1 d v Pv->Rel K g' H' (JO jx Γ1 Γl) m' σ P'->Disj P' Pv->Q v H') :
    ∃ W:Nat->Nat->List V->Hp->Prop,(∃ m,W 0 m [] H1)/\Ly jx g (tT K Γt Γc jc c) (tE K Γc 0 Γf jf f) I σ (fun ys H=>∀ p,H p=none->Q (.ref p) (upd H p (.lst ys))) W:=by
  have sub:∀ i∈J,i∈jt++(jc++jf):=fun i h=>As (hJ▸h)
  have nJ:∀ i∈J,i∉jx:=fun i h z=>by
    rw [hJ] at h;have:=(List.mem_filter.mp h).2;rw [Bool.and_eq_true] at this;cases e:Γl.getD i none with
    | none=>rw [e] at this;cases this.2
    | some o =>
      obtain ⟨o',e',_⟩:=EI hbl (BQ e);exact (CZ e').1 z
  have lb:(KQ jx Γ1).length=Γ1.length:=by unfold KQ;simp
  obtain ⟨Pb,rb,sb⟩:=r1.sub (Γ':=KQ jx Γ1) (σ':=L2.blank jx σ) lb (L2.blank_length ..) fun i o e=>⟨(CZ e).2,Hu jx σ i (CZ e).1⟩
  obtain ⟨g0,P0,s0,r0⟩:=rb.weaken hbl;have s10:Step g1 P1 H1 g0 P0 H1:=s0.sub sb fun _ z=>z
  refine ⟨fun i j ys H=>j=ds.length - i/\i<=ds.length/\ys.length<=i/\∃ g2 t P2 ya,Step g1 P1 H1 g2 P2 H/\Rel K g2 H Γl (AX J m1 t) (L2.blank jx σ) P2/\Reps K g2 H 0 ya ys nop/\run (ds.drop i) t ya,
    ⟨ds.length,by simp,Nat.zero_le _,Nat.zero_le _,g0,AU J m1,P0,[],s10,LQ r0,Reps.nil,by simpa using h0⟩,?_⟩
  rintro i j ys H2 ⟨rfl,hi,hyl,g2,t,P2,ya,s2,r2,ry,e2⟩;have st:Ka g1 H1 g2 H2:=⟨P1,P2,s2,r1.fpOk⟩
  by_cases hlt:i < ds.length
  · rw [List.drop_eq_getElem_cons hlt] at e2;obtain ⟨B,kx,kf,rB,e3,hx,hf⟩:=hc _ _ _ _ e2;obtain ⟨go,yy⟩:=(yl g2 H2 st).1 i ds[i] (List.getElem?_eq_getElem hlt);refine .inr ⟨go,Nat.lt_of_le_of_lt hyl (Nat.lt_of_lt_of_le hlt (Nat.le_trans hz (by decide))),fun zs H'=>zs.length<=i+1/\∃ g5 P5 m' za,Step g1 P1 H1 g5 P5 H'/\Rel K g5 H' Γl m' (L2.blank jx σ) P5/\BU (jt++(jc++jf)) m1 m'/\Reps K g5 H' 0 za zs nop/\run (ds.drop (i+1)) (AU J m') za,?_,fun y H3 hy=>?_⟩
    · rintro zs H' ⟨hl,g5,P5,m',za,s5,r5,ag,rz,hr⟩;exact ⟨ds.length - (i+1),by omega,rfl,hlt,hl,g5,AU J m',P5,za,s5,r5.join ag fun i o h=>hJ▸BH h,rz,hr⟩
    · obtain ⟨Pv,s3,h3,r3,n3⟩:=AV.go s2 r2 (yy y H3 hy);have ry3:Reps K g2 H3 0 ya ys nop:=ry.held (Step.same (P:=nop) (yy y H3 hy).1) FpOk.nop fun _ _ z=>z
      refine ht g2 _ P2 ds[i] y _ H3 B _ rB _ r3 h3.z e3 fun m2 P' σ' hk ag sp ip r'=>?_
      have s4:Step g1 P1 H1 g2 P' H3:=s3.less fun a z=>.inl (sp a z)
      have a4:BU (jt++(jc++jf)) m1 m2:=((AN J m1 t).mono sub).trans ag |>.mono fun i z=>(List.mem_append.mp z).elim id fun z=>List.mem_append_left _ z
      -- outside of the comprehension's own slots nothing is bound
      have back:∀ {g5:G} {P5:Fp} {m':M} {H':Hp},Rel K g5 H' Γl m' σ' P5->∃ P6,Rel K g5 H' Γl m' (L2.blank jx σ) P6/\∀ a,P6 a->P5 a:=fun {g5 P5 m' H'} r5=>r5.sub rfl (by rw [ip.1]) fun i o e=>⟨e,(ip.2 i fun z=>by
          obtain ⟨o',e',_⟩:=EI hbl e;exact (CZ e').1 (hsx i z)).symm⟩
      refine ⟨g2,m2,P',r',B,_,rB,hk,fun b m3 g4 P4 H4 hk4 ag4 s5 r4=>?_⟩;have ry4:=ry3.held s5 r'.fpOk fun _ z=>z.elim
      cases b with
      | false =>
        rw [if_neg Bool.false_ne_true] at hk4;show (if false=true then _ else _);rw [if_neg Bool.false_ne_true];obtain ⟨g6,P6,s6,r6⟩:=r4.weaken hwc;obtain ⟨P7,r7,sp7⟩:=back r6;exact ⟨by omega,g6,P7,m3,ya,((s4.trans s5).trans s6).less sp7,r7,(a4.trans ag4).mono fun i z=>(List.mem_append.mp z).elim id fun z=>List.mem_append_right _ (List.mem_append_left _ z),ry4.held s6 r4.fpOk fun _ z=>z.elim,hf m3 hk4⟩
      | true =>
        rw [if_pos rfl] at hk4;show (if true=true then _ else _);rw [if_pos rfl];refine ⟨g4,m3,P4,r4,B,kx,rB,hk4,fun x m4 g5 P5 Pv v H5 hk5 ag5 s6 rv r5 n5=>?_⟩;have ry5:=ry4.held s6 r4.fpOk fun _ z=>z.elim
        obtain ⟨g6,P6,s7,r6⟩:=r5.weaken hwf;obtain ⟨P7,r7,sp7⟩:=back r6;refine ⟨by rw [List.length_append,List.length_singleton];omega,g6,P7,m4,ya++[x],(((s4.trans s5).trans (s6.less fun _ z=>.inl z)).trans s7).less sp7,r7,?_,?_,hx x m4 hk5⟩
        · exact ((a4.trans ag4).trans ag5).mono fun i z=>(List.mem_append.mp z).elim (fun z=>(List.mem_append.mp z).elim id fun z=>List.mem_append_right _ (List.mem_append_left _ z)) fun z=>List.mem_append_right _ (List.mem_append_right _ z)
        · refine ((Reps.app ry5 (Reps.cons rv.z Reps.nil fun _ z=>z.elim) fun _ z=>z.elim).iff (Q:=nop) fun a=>⟨fun z=>z.elim,fun z=>z.elim id fun z=>z.elim id id⟩).held s7 r5.fpOk fun _ z=>z.elim
  · have ei:i=ds.length:=by omega
    subst ei;rw [List.drop_length] at e2;refine .inl ⟨(yl g2 H2 st).2 _ (Nat.le_refl _),fun p hp=>?_⟩;obtain ⟨Pv,s3,h1,r3,n3⟩:=AV.go s2 r2 (AV.lst r2.zd ry hp);have l1:Γl.length=Γ1.length:=(DP hbl).trans lb;obtain ⟨P4,r4,sp4⟩:=r3.more (Γ':=JO jx Γ1 Γl) (σ':=σ) (by unfold JO;simp) (by rw [L2.blank_length]) fun i o e=>by
      obtain ⟨hi,e⟩:=DK e;split at e
      · rename_i z;split at e
        · rename_i z0;cases e;refine .inr ⟨rfl,?_⟩;obtain ⟨v,Px,ev,rx,_⟩:=r1.see (BQ (beq_iff_eq.mp z0));have ji:i∉J:=fun w=>nJ i w (List.contains_iff_mem.mp z)
          have hl:i < m1.length:=by rw [r1.len.1,<- l1];exact hi
          refine ⟨m1.at i,v,?_,ev,(rx.z.held s2 r1.fpOk fun _ z=>z.elim).held (Step.same (P:=nop) (Cn hp (.lst ys))) FpOk.nop fun _ _ z=>z⟩;have:=(AN J m1 t).2 i ji;have hl':i < (AX J m1 t).length:=by rw [GQ];exact hl
          rw [List.getElem?_eq_getElem hl',<- this];unfold M.at;rw [List.getD_eq_getElem?_getD,List.getElem?_eq_getElem hl'];rfl
        · cases e
      · rename_i z;exact .inl ⟨BQ e.symm,(Hu jx σ i fun w=>z (List.contains_iff_mem.mpr w)).symm⟩
    exact q _ _ g2 P4 Pv _ _ (hn t ya e2) ((AN J m1 t).mono sub) (s3.less fun a z=>z.elim (fun z=>.inl (sp4 a z)) .inr) h1 r4 fun a z w=>n3 a (sp4 a z) w
def RH (src:Ev (List Dv)) (tg:Tg) (f:Ev Dv):Ev Dv:=fun R m k=>src R m fun ds m1=>EV ds ((Az (fun d=>tg Dv d m1 fun m2=>f Dv m2 fun x _=>some x) ds).bind fun xs=>k (.lst xs) m1)
def RI (src:Ev (List Dv)) (tg:Tg) (c:Ev Bool) (f:Ev Dv):Ev Dv:=fun R m k=>src R m fun ds m1=>EV ds ((Yg (fun d=>tg (Option Dv) d m1 fun m2=>c (Option Dv) m2 fun b m3=>if b=true then f (Option Dv) m3 fun x _=>some (some x) else some none) ds).bind fun xs=>k (.lst xs) m1)
def Mj (src:Ev (List Dv)) (tg:Tg) (J:List Nat) (f:Ev Dv):Ev Dv:=fun R m k=>src R m fun ds m1=>EV ds ((BD (fun d t=>tg (Dv×DX J) d (AX J m1 t) fun m2=>f (Dv×DX J) m2 fun x m3=>some (x,AU J m3)) ds (AU J m1)).bind fun p=>k (.lst p.1) (AX J m1 p.2))
def Mi (src:Ev (List Dv)) (tg:Tg) (J:List Nat) (c:Ev Bool) (f:Ev Dv):Ev Dv:=fun R m k=>src R m fun ds m1=>EV ds ((Mo (fun d t=>tg (Option Dv×DX J) d (AX J m1 t) fun m2=>c (Option Dv×DX J) m2 fun b m3=>if b=true then f (Option Dv×DX J) m3 fun x m4=>some (some x,AU J m4) else some (none,AU J m3)) ds (AU J m1)).bind fun p=>k (.lst p.1) (AX J m1 p.2))
def Cw:Ev Bool:=fun _ m k=>k true m
section
variable {K:W.Frag} {Γ Γ1 Γl Γt Γc Γf:Gm} {js jx jt jc jf J:List Nat} {g:TG} {ft:Tg} {c:Ev Bool} {f:Ev Dv} {src:Ev (List Dv)} {σ:St} {H:Hp} {Q:VK}
theorem Jj (ht:Ls K Γl Γt jt g ft) (hbl:BP Γl (KQ jx Γ1)=true) (hwf:BP Γl Γf=true) (hwc:BP Γl Γt=true) (hsx:∀ i∈jt,i∈jx) (hJ:([]:List Nat)=Au Γl (jt++([]++jf)))
    (h:tE K Γ 1 (JO jx Γ1 Γl) (js++(jt++([]++jf))) (RH src ft f) σ H Q):EZ (tI K Γ Γ1 js src) jx g (tT K Γt Γt [] Cw) (tE K Γt 0 Γf jf f) σ H Q:=by
  obtain ⟨g0,m,P,r,R,k,res,e,q⟩:=h;refine ⟨g0,m,P,r,R,_,res,e,fun ds m1 g1 P1 H1 I hk ag s r1 yl=>?_⟩;obtain ⟨hz,hk⟩:=EM hk;obtain ⟨xs,e1,e2⟩:=bind_some' hk;refine ER (c:=Cw) ht hbl hwf hwc hsx hJ hz r1 yl (fun ds _ ya=>∃ yb,xs=ya++yb/\Az _ ds=some yb) ⟨xs,rfl,e1⟩ (fun t ya ⟨yb,h1,h2⟩=>?_) (fun d ds t ya ⟨yb,h1,h2⟩=>?_) fun d m' g' P' Pv v H' hk ag' s'=>q d m' g' P' Pv v H' hk (ag.trans ag') (s.trans s')
  · cases h2;rw [List.append_nil] at h1;subst h1;exact e2
  · obtain ⟨x,h3,h4⟩:=bind_some' h2;obtain ⟨yc,h5,h6⟩:=bind_some' h4;cases h6;exact ⟨Dv,fun x _=>some x,fun _=>none,x,h3,(fun y m' hk=>by cases hk;exact ⟨yc,by rw [h1,List.append_assoc];rfl,h5⟩),fun m' hk=>by cases hk⟩
theorem Jl (ht:Ls K Γl Γt jt g ft) (hbl:BP Γl (KQ jx Γ1)=true) (hwf:BP Γl Γf=true) (hwc:BP Γl Γc=true) (hsx:∀ i∈jt,i∈jx) (hJ:([]:List Nat)=Au Γl (jt++(jc++jf)))
    (h:tE K Γ 1 (JO jx Γ1 Γl) (js++(jt++(jc++jf))) (RI src ft c f) σ H Q):EZ (tI K Γ Γ1 js src) jx g (tT K Γt Γc jc c) (tE K Γc 0 Γf jf f) σ H Q:=by
  obtain ⟨g0,m,P,r,R,k,res,e,q⟩:=h;refine ⟨g0,m,P,r,R,_,res,e,fun ds m1 g1 P1 H1 I hk ag s r1 yl=>?_⟩;obtain ⟨hz,hk⟩:=EM hk;obtain ⟨xs,e1,e2⟩:=bind_some' hk;refine ER ht hbl hwf hwc hsx hJ hz r1 yl (fun ds _ ya=>∃ yb,xs=ya++yb/\Yg _ ds=some yb) ⟨xs,rfl,e1⟩ (fun t ya ⟨yb,h1,h2⟩=>?_) (fun d ds t ya ⟨yb,h1,h2⟩=>?_) fun d m' g' P' Pv v H' hk ag' s'=>q d m' g' P' Pv v H' hk (ag.trans ag') (s.trans s')
  · cases h2;rw [List.append_nil] at h1;subst h1;exact e2
  · obtain ⟨x,h3,h4⟩:=bind_some' h2;obtain ⟨yc,h5,h6⟩:=bind_some' h4;cases h6;refine ⟨Option Dv,fun x _=>some (some x),fun _=>some none,x,h3,(fun y m' hk=>?_),fun m' hk=>?_⟩
    · cases hk;exact ⟨yc,by rw [h1,List.append_assoc];rfl,h5⟩
    · cases hk;exact ⟨yc,h1,h5⟩
theorem Hq (ht:Ls K Γl Γt jt g ft) (hbl:BP Γl (KQ jx Γ1)=true) (hwf:BP Γl Γf=true) (hwc:BP Γl Γt=true) (hsx:∀ i∈jt,i∈jx) (hJ:J=Au Γl (jt++([]++jf)))
    (h:tE K Γ 1 (JO jx Γ1 Γl) (js++(jt++([]++jf))) (Mj src ft J f) σ H Q):EZ (tI K Γ Γ1 js src) jx g (tT K Γt Γt [] Cw) (tE K Γt 0 Γf jf f) σ H Q:=by
  obtain ⟨g0,m,P,r,R,k,res,e,q⟩:=h;refine ⟨g0,m,P,r,R,_,res,e,fun ds m1 g1 P1 H1 I hk ag s r1 yl=>?_⟩;obtain ⟨hz,hk⟩:=EM hk;obtain ⟨p,e1,e2⟩:=bind_some' hk;refine ER (c:=Cw) ht hbl hwf hwc hsx hJ hz r1 yl (fun ds t ya=>∃ yb,p.1=ya++yb/\BD _ ds t=some (yb,p.2)) ⟨p.1,rfl,e1⟩ (fun t ya ⟨yb,h1,h2⟩=>?_) (fun d ds t ya ⟨yb,h1,h2⟩=>?_) fun d m' g' P' Pv v H' hk ag' s'=>q d m' g' P' Pv v H' hk (ag.trans ag') (s.trans s')
  · simp only [BD,Option.some.injEq,Prod.mk.injEq] at h2;obtain ⟨rfl,rfl⟩:=h2;rw [List.append_nil] at h1;rw [<- h1];exact e2
  · obtain ⟨x,h3,h4⟩:=bind_some' h2;obtain ⟨yc,h5,h6⟩:=bind_some' h4;simp only [Option.some.injEq,Prod.mk.injEq] at h6;obtain ⟨rfl,h7⟩:=h6;refine ⟨_,fun x m3=>some (x,AU J m3),fun _=>none,x,h3,(fun y m' hk=>?_),fun m' hk=>by cases hk⟩;cases hk;exact ⟨yc.1,by rw [h1,List.append_assoc];rfl,by rw [<- h7];exact h5⟩
theorem Ho (ht:Ls K Γl Γt jt g ft) (hbl:BP Γl (KQ jx Γ1)=true) (hwf:BP Γl Γf=true) (hwc:BP Γl Γc=true) (hsx:∀ i∈jt,i∈jx) (hJ:J=Au Γl (jt++(jc++jf)))
    (h:tE K Γ 1 (JO jx Γ1 Γl) (js++(jt++(jc++jf))) (Mi src ft J c f) σ H Q):EZ (tI K Γ Γ1 js src) jx g (tT K Γt Γc jc c) (tE K Γc 0 Γf jf f) σ H Q:=by
  obtain ⟨g0,m,P,r,R,k,res,e,q⟩:=h;refine ⟨g0,m,P,r,R,_,res,e,fun ds m1 g1 P1 H1 I hk ag s r1 yl=>?_⟩;obtain ⟨hz,hk⟩:=EM hk;obtain ⟨p,e1,e2⟩:=bind_some' hk;refine ER ht hbl hwf hwc hsx hJ hz r1 yl (fun ds t ya=>∃ yb,p.1=ya++yb/\Mo _ ds t=some (yb,p.2)) ⟨p.1,rfl,e1⟩ (fun t ya ⟨yb,h1,h2⟩=>?_) (fun d ds t ya ⟨yb,h1,h2⟩=>?_) fun d m' g' P' Pv v H' hk ag' s'=>q d m' g' P' Pv v H' hk (ag.trans ag') (s.trans s')
  · simp only [Mo,Option.some.injEq,Prod.mk.injEq] at h2;obtain ⟨rfl,rfl⟩:=h2;rw [List.append_nil] at h1;rw [<- h1];exact e2
  · obtain ⟨x,h3,h4⟩:=bind_some' h2;obtain ⟨yc,h5,h6⟩:=bind_some' h4;simp only [Option.some.injEq,Prod.mk.injEq] at h6;obtain ⟨rfl,h7⟩:=h6;refine ⟨_,fun x m4=>some (some x,AU J m4),fun m3=>some (none,AU J m3),x,h3,(fun y m' hk=>?_),fun m' hk=>?_⟩
    · cases hk;exact ⟨yc.1,by rw [h1,List.append_assoc];rfl,by rw [<- h7];exact h5⟩
    · cases hk;exact ⟨yc.1,h1,by rw [<- h7];exact h5⟩
end
end R
namespace L2
open PySem PySem.Spec PyProof.Rows
def gc (h:Heap) (it l:Addr) (i:Nat):Bool->Prop
 | false=>h.IsListIter it l i
 | true=>h.IsTupleIter it l i
section
end
def gM (K:W.Frag) (H:Hp) (a:Addr) (xs:List V):Bool->Prop
 | false=>CP K H a xs
 | true=>DY K H a xs
section
end
section
end
section
end
section
end
section
end
def eJ (x:Str):It:=⟨fun i H=>∃ c,x.cps[i]?=some c,fun i H v H'=>H'=H/\∃ c,x.cps[i]?=some c/\v=.str ⟨#[c]⟩,fun i H=>x.cps[i]?=none⟩
theorem Ko {h h':Heap} {a:Addr} {ty:String} {x:Str} {t:Tok} {i:Nat} (y:h.IsStrIter a ty x t i) (k:∀ o,h.get? a=some o->h'.get? a=some o):h'.IsStrIter a ty x t i:=
 let ⟨o,ho,r⟩:=y;⟨o,k o ho,r⟩
theorem PB {P:Program} {w:World} {K:W.Frag} {tg:Expr} (x:Str) (t:Tok) (it:Addr):Turn P w K tg (eJ x) [it] it (fun i h=>h.IsStrIter it (strIterType x) x t i) where
 mem:=by simp
 obj:=fun i h st b hb=>by
  have e:b=it:=by simpa using hb
  subst e;obtain ⟨o,e,c,d⟩:=st;exact ⟨o,e,fun v z=>by rw [d] at z;cases z⟩
 keep:=fun i h h' st k=>Ko st fun o e=>k it (by simp) o e
 item:=by
  intro X hP hw hK hc i pins s σ H E I hf st hg;subst hP hw hK;obtain ⟨c,hx⟩:=hg;obtain ⟨f0,f1,f2,f3,f4,f5⟩:=hf it (by simp);have fin:∀ h':Heap,h'.IsStrIter it (strIterType x) x t (i+1)->Heap.SameBut it s.heap h'->∃ u,some (Value.str ⟨#[c]⟩ s.toks)=some u/\wpAny (model X.prog X.w) X.A (letOwnedTupleGo tg (.ref it) u) (fun _ s2=>∃ x_1 H',Inv X pins σ H' s2/\RelV x_1 u/\(eJ x).yld i H x_1 H'/\s2.heap.IsStrIter it (strIterType x) x t (i+1)/\∀ b∈[it],H' b=none) E { s with heap:=h',toks:=s.toks+1 }:=fun h' st' sb=>by
   have I1:Inv X pins σ H { s with heap:=h',toks:=s.toks+1 }:=I.turned (t':=s.toks+1) (fun b o hb e=>(sb.2 b hb).trans e) f0 f1 f3 f4 f5;obtain ⟨o,e,c',d⟩:=id st';exact ⟨_,rfl,Js (s:={ s with heap:=h',toks:=s.toks+1 }) e c' d (by unfold strIterType;split<;>decide) ⟨.str ⟨#[c]⟩,H,I1,⟨_,rfl⟩,⟨rfl,c,hx,rfl⟩,st',fun b hb=>(hf b hb).1⟩⟩
  by_cases ha:x.cps.all (· < 128)=true
  ·have e:strIterType x = "str_ascii_iterator" := by unfold strIterType;rw [if_pos ha]
   rw [e] at st fin ⊢;exact wpAny_pyNext_ascii_item st hx fun h' st' sb=>fin h' st' sb
  ·have e:strIterType x = "str_iterator" := by unfold strIterType;rw [if_neg ha]
   rw [e] at st fin ⊢;exact wpAny_pyNext_wide_item st hx fun h' st' sb=>fin h' st' sb
 done:=by
  intro X hP hw hK hc i pins s σ H E I hf st hg;subst hP hw hK;obtain ⟨f0,f1,f2,f3,f4,f5⟩:=hf it (by simp)
  by_cases ha:x.cps.all (· < 128)=true
  ·have e:strIterType x = "str_ascii_iterator" := by unfold strIterType;rw [if_pos ha]
   rw [e] at st;exact wpAny_pyNext_ascii_end (I.ok.hd hc) st hg fun h' eb=>⟨rfl,I.turned (t':=s.toks) (fun b o hb e=>eb b o hb e) f0 f1 f3 f4 f5⟩
  ·have e:strIterType x = "str_iterator" := by unfold strIterType;rw [if_neg ha]
   rw [e] at st;exact wpAny_pyNext_wide_end (I.ok.hd hc) st hg fun h' eb=>⟨rfl,I.turned (t':=s.toks) (fun b o hb e=>eb b o hb e) f0 f1 f3 f4 f5⟩
 self:=fun A i s Q E st h=>by
  by_cases ha:x.cps.all (· < 128)=true
  ·have e:strIterType x = "str_ascii_iterator" := by unfold strIterType;rw [if_pos ha]
   rw [e] at st;exact wpAny_pyIter_striter_ascii st h
  ·have e:strIterType x = "str_iterator" := by unfold strIterType;rw [if_neg ha]
   rw [e] at st;exact wpAny_pyIter_striter_wide st h
section
variable {X:Cx}
abbrev cJ (K:W.Frag) (tl:TE):TI:=fun σ H R=>tl σ H fun x H1=>(∃ a xs,x=.ref a/\((CP K H1 a xs/\R (eK K a) H1)\/(DY K H1 a xs/\R (ff K a) H1)))\/∃ z,x=.str z/\R (eJ z) H1
theorem UE {tg l:Expr} {tl:TE} (hl:PE X l tl):PI X tg l (cJ X.K tl):=by
 intro pins s σ H R I h;refine Al (hl pins s σ H _ I h) fun v s1 ⟨x,H1,I1,r1,q1⟩=>?_
 rcases q1 with ⟨a,xs,e,q⟩ | ⟨z,e,q⟩
 ·subst e;cases r1;rcases q with ⟨hq,q⟩ | ⟨hq,q⟩
  ·obtain ⟨its,rv,p,hz⟩:=I1.list hq;refine wpAny_pyIter_list p.isList ?_;refine ⟨s1.heap.objs.size,[s1.heap.objs.size],_,_,H1,rfl,I1.kept (t':=s1.toks) fun b o e=>Heap.get?_push_of_some _ e,NA a _,⟨_,Heap.get?_push_size _ rfl,rfl,rfl⟩,fun b hb=>?_,q⟩;have e:b=s1.heap.objs.size:=by simpa using hb
   subst e;exact I1.fpOk (Nat.le_refl _) (I1.hok.fresh (Nat.le_refl _))
  ·obtain ⟨its,rv,p,hz⟩:=I1.tuple hq;refine wpAny_pyIter_tuple (show s1.heap.IsTuple a its.toArray from p) ?_;refine ⟨s1.heap.objs.size,[s1.heap.objs.size],_,_,H1,rfl,I1.kept (t':=s1.toks) fun b o e=>Heap.get?_push_of_some _ e,Kg a _,⟨_,Heap.get?_push_size _ rfl,rfl,rfl⟩,fun b hb=>?_,q⟩;have e:b=s1.heap.objs.size:=by simpa using hb
   subst e;exact I1.fpOk (Nat.le_refl _) (I1.hok.fresh (Nat.le_refl _))
 ·subst e;obtain ⟨t,rfl⟩:=r1;refine wpAny_pyIter_strU ?_;refine ⟨s1.heap.objs.size,[s1.heap.objs.size],_,_,H1,rfl,I1.kept (t':=s1.toks) fun b o e=>Heap.get?_push_of_some _ e,PB z t _,⟨_,Heap.get?_push_size _ rfl,rfl,rfl⟩,fun b hb=>?_,q⟩;have e:b=s1.heap.objs.size:=by simpa using hb
  subst e;exact I1.fpOk (Nat.le_refl _) (I1.hok.fresh (Nat.le_refl _))
end
section
end
section
end
section
end
section
variable {X:Cx} {p1 p2 pos1 pos2:Pos} {es:List Expr} {e:Expr} {ta:TA}
abbrev JG (ta:TA):TE:=fun σ H Q=>ta σ H fun vs H1=>∃ (i j:Int),(vs=[.int j]/\i=0\/vs=[.int i,.int j])/\(-(2 ^ 62)<=i/\i < 2 ^ 62/\-(2 ^ 62)<=j/\j < 2 ^ 62)/\(j - i).toNat<=1000000/\∀ l,H1 l=none->Q (.ref l) (upd H1 l (.lst ((List.range (j - i).toNat).map fun k=>.int (i+(k:Nat)))))
theorem HY {A:Around} {E:Value->Shared->Prop} {pins:List (Addr×Obj)} {σ:St} {H:Hp} {s:Shared} {Q:VK} {i j:Int} {t u v:Tok} {tk:Nat} (hh:A.handled=none) (I:Inv X pins σ H s) (h1:-(2 ^ 62)<=i) (h2:i < 2 ^ 62) (h3:-(2 ^ 62)<=j) (h4:j < 2 ^ 62) (hl:(j - i).toNat<=1000000)
    (q:∀ l,H l=none->Q (.ref l) (upd H l (.lst ((List.range (j - i).toNat).map fun k=>.int (i+(k:Nat)))))) :
    wpAny (model X.prog X.w) A (call (.type "list") [.ref s.heap.objs.size]) (fun v s'=>∃ x H',Inv X pins σ H' s'/\RelV x v/\Q x H') E { s with heap:=s.heap.push { cls:=.type "range", data:=.fields #[.int i t,.int j u,.int 1 v] },toks:=tk }:=by
  have hr:Builtin.Range.rangeSize i j 1=((j - i).toNat:Nat):=by rw [rangeSize_one];split<;>omega
  refine call_list_range (n:=(j - i).toNat) hh (IsRange.new ..) (small_one h1 h2 h3 h4) hr (by omega) fun h' tk' acc c' hk eh hacc=>?_
  have kp:∀ b o,s.heap.get? b=some o->h'.get? b=some o:=fun b o e=>hk b o (Heap.get?_push_of_some _ e)
  have hsz:(s.heap.push { cls:=.type "range", data:=.fields #[.int i t,.int j u,.int 1 v] }).objs.size=s.heap.objs.size+1:=Heap.size_push ..
  have hv:AE ((List.range (j - i).toNat).map fun k=>V.int (i+(k:Nat))) acc.toList:=by
    have:∀ (n m:Nat) (l:List Value),l.length=n->(∀ (q:Nat) (v:Value),l[q]?=some v->∃ t,v=.int (i+((m+q:Nat):Int)) t)->AE ((List.range' m n).map fun k=>V.int (i+(k:Nat))) l:=by
      intro n
      induction n with
      | zero=>intro m l e _;cases l with | nil=>exact .nil | cons a b=>cases e
      | succ n ih =>
        intro m l e h;cases l with
        | nil=>cases e
        | cons a b =>
          rw [List.range'_succ,List.map_cons];refine .cons ?_ (ih (m+1) b (by simpa using e) fun q v hv=>?_)
          · obtain ⟨t,rfl⟩:=h 0 a rfl;exact ⟨t,rfl⟩
          · obtain ⟨t,rfl⟩:=h (q+1) v (by simpa using hv);exact ⟨t,by rw [Nat.add_assoc,Nat.add_comm 1 q]⟩
    rw [List.range_eq_range'];refine this (j - i).toNat 0 acc.toList (by simp [hacc.1]) fun q v hv=>?_
    obtain ⟨t,e⟩:=hacc.2 q v (by simpa using hv);exact ⟨t,by rw [e];simp⟩
  refine ⟨.ref _,_,I.laid (t':=tk') kp (by rw [hsz];exact Nat.le_succ _) (show Ah X.prog X.w _ h' _ (.lst ((List.range (j - i).toNat).map fun k=>.int (i+(k:Nat)))) from ⟨by rw [List.length_map,List.length_range];exact Nat.le_trans hl (show 1000000<=sizeLine by decide),acc.toList,c',hv,by rw [eh]⟩),rfl,q _ (I.hok.fresh (by rw [hsz];exact Nat.le_succ _))⟩
theorem LC (hc:X.calm=true) (hgL:Gl X "list") (hmL:X.mg "list" = none) (hgR:Gl X "range") (hmR:X.mg "range" = none) (ha:PA X (e::es) ta)
    (hs1:starEach [.Call (.Name "range" p2) (e::es) [] pos2] X.env=(false,eval (.Call (.Name "range" p2) (e::es) [] pos2) X.env)::starEach [] X.env:=by rfl)
    (hpl1:(backTo pos1 (starEach [] X.env)).any (·.1)=false:=by rfl)
    (hs2:starEach (e::es) X.env=(false,eval e X.env)::starEach es X.env:=by rfl) (hpl2:(backTo pos2 (starEach es X.env)).any (·.1)=false:=by rfl) :
    PE X (.Call (.Name "list" p1) [.Call (.Name "range" p2) (e::es) [] pos2] [] pos1) (JG ta):=by
  intro pins s σ H Q I h;refine wpAny_Call_Name_kw (CY I hgL hmL PyProof.Rows.Boot.«list» ?_ (by decide) (by decide));refine PyProof.Rows.callWith_type1 ?_ hs1 hpl1;rw [hs1]
  show wpAny _ _ (spliced ((false,eval (.Call (.Name "range" p2) (e::es) [] pos2) X.env)::backTo pos1 (starEach [] X.env))) _ _ s
  refine Calls.spliced_cons ?_;refine wpAny_Call_Name_kw (CY I hgR hmR boot_range ?_ (by decide) (by decide));refine PyProof.Rows.callWith_type1 (Al (ha pos2 pins s σ H _ I h) fun us s1 ⟨vs,H1,I1,r1,q1⟩=>?_) hs2 hpl2;obtain ⟨i,j,ev,⟨b1,b2,b3,b4⟩,hl,q⟩:=q1;rcases ev with ⟨ev,rfl⟩ | ev
  · subst ev;cases r1 with
    | cons r rr =>
      cases rr;obtain ⟨t,rfl⟩:=r;refine call_range_1 (Calls.spliced_nil ?_);exact HY (I1.ok.hd hc) I1 b1 b2 b3 b4 hl q
  · subst ev;cases r1 with
    | cons r rr =>
      cases rr with
      | cons r' rr =>
        cases rr;obtain ⟨t,rfl⟩:=r;obtain ⟨t',rfl⟩:=r';refine call_range_2 (Calls.spliced_nil ?_);exact HY (I1.ok.hd hc) I1 b1 b2 b3 b4 hl q
end
end L2
namespace R
open PySem L2
noncomputable def items:Dv->Option (List Dv)
 | .tup ds=>some ds
 | .lst ds=>some ds
 | .scr ns=>some (ns.map .int)
 | .str l=>some (l.map fun c=>.str [c])
 | _=>none
def Mh (f:Ev Dv):Ev (List Dv):=fun R m k=>f R m fun d m'=>(items d).bind fun ds=>k ds m'
section
variable {K:W.Frag} {g:G} {H:Hp}
theorem rep_int {o:Nat} {i:Int} {v:V} {P:Fp} (h:Rep K g H o (.int i) v P):v=.int i:=by unfold Rep at h;exact h.1
theorem BK {o:Nat} {i:Int}:Rep K g H o (.int i) (.int i) nop:=by unfold Rep;exact ⟨rfl,fun _ z=>z⟩
theorem Sw {a:Addr} {ds:List Dv} (h:Rep K g H 0 (.lst ds) (.ref a) nop):Yl K (eK K a) ds g H:=by
 intro g2 H2 st;have h2:=st.rep h;unfold Rep at h2;obtain ⟨b,vs,P',e,h1,h2,_⟩:=h2;cases e;have sq:CP K H2 a vs:=.inl (.inl h1.1);refine ⟨fun i d e=>?_,fun i hi=>⟨vs,sq,by rw [<- h2.len];exact hi⟩⟩;obtain ⟨v,P,ev,rv,_⟩:=h2.get e;refine ⟨⟨vs,v,sq,ev⟩,fun x H3 y=>?_⟩;obtain ⟨rfl,y⟩:=y;have:=y vs sq;rw [ev] at this;cases this;exact AV.old rv.z
theorem Wx {a:Addr} {ds:List Dv} (h:Rep K g H 0 (.tup ds) (.ref a) nop):Yl K (ff K a) ds g H:=by
 intro g2 H2 st;have h2:=st.rep h;unfold Rep at h2;obtain ⟨b,vs,e,h1,h2⟩:=h2;cases e;have sq:DY K H2 a vs:=.inl (.inl h1);refine ⟨fun i d e=>?_,fun i hi=>⟨vs,sq,by rw [<- h2.len];exact hi⟩⟩;obtain ⟨v,P,ev,rv,_⟩:=h2.get e;refine ⟨⟨vs,v,sq,ev⟩,fun x H3 y=>?_⟩;obtain ⟨rfl,y⟩:=y;have:=y vs sq;rw [ev] at this;cases this;exact AV.old rv.z
theorem Wz {a:Addr} {ns:List Int} (h:Rep K g H 0 (.scr ns) (.ref a) nop):Yl K (eK K a) (ns.map .int) g H:=by
 intro g2 H2 st;have h2:=st.rep h;unfold Rep at h2;obtain ⟨⟨b,e,h1⟩,_⟩:=h2;cases e;have sq:=h1.sq;refine ⟨fun i d e=>?_,fun i hi=>⟨_,sq,by rw [List.length_map] at hi ⊢;exact hi⟩⟩;rw [List.getElem?_map] at e;cases q:ns[i]? with
 | none=>rw [q] at e;cases e
 | some k =>
  rw [q] at e;cases e;refine ⟨⟨_,.int k,sq,by rw [List.getElem?_map,q];rfl⟩,fun x H3 y=>?_⟩;obtain ⟨rfl,y⟩:=y;have:=y _ sq;rw [List.getElem?_map,q] at this;cases this;exact AV.old BK
theorem Wy {l:List Nat}:Yl K (eJ (tx l)) (l.map fun c=>.str [c]) g H:=by
 intro g2 H2 st;have ec:∀ i:Nat,(tx l).cps[i]?=l[i]?:=fun i=>by show l.toArray[i]?=l[i]?;simp
 refine ⟨fun i d e=>?_,fun i hi=>?_⟩
 ·rw [List.getElem?_map] at e;cases q:l[i]? with
  | none=>rw [q] at e;cases e
  | some c =>
   rw [q] at e;simp only [Option.map_some,Option.some.injEq] at e;subst e;refine ⟨⟨c,by rw [ec,q]⟩,fun x H3 y=>?_⟩;obtain ⟨rfl,c',e',rfl⟩:=y;rw [ec,q] at e';cases e';exact AV.old (by unfold Rep;exact ⟨rfl,fun _ z=>z⟩)
 ·show (tx l).cps[i]?=none;rw [ec];rw [List.length_map] at hi;exact List.getElem?_eq_none hi
theorem Os {lo:Int} {n:Nat}:Yl K (dX lo n) ((List.range n).map fun k=>.int (lo+(k:Nat))) g H:=by
 intro g2 H2 st;refine ⟨fun i d e=>?_,fun i hi=>by rw [List.length_map,List.length_range] at hi;exact hi⟩;obtain ⟨hi,rfl⟩:=DK e;refine ⟨hi,fun x H3 y=>?_⟩;obtain ⟨rfl,rfl⟩:=y;exact AV.old BK
end
section
variable {X:Cx} {tg e a b:Expr} {es:List Expr} {f:Ev Dv} {p pos:Pos} {Γ Γ':Gm} {js:List Nat} {as:List Ar}
theorem cF (h:PE X e (tE X.K Γ 0 Γ' js f)):PI X tg e (tI X.K Γ Γ' js (Mh f)):=PI.imp (UE h) fun σ H Q q=>by
 obtain ⟨g,m,P,r,R,k,res,e,q⟩:=q;refine ⟨g,m,P,r,R,_,res,e,fun d m' g' P' Pv v H' hk ag s rv r1 n=>?_⟩;obtain ⟨ds,e1,e2⟩:=bind_some' hk;have s':Step g P H g' P' H':=s.less fun _ z=>.inl z
 have rz:=rv.z;cases d with
 | tup es =>
  cases e1;have h0:=rz;unfold Rep at h0;obtain ⟨a,vs,rfl,h1,h2⟩:=h0;exact .inl ⟨a,vs,rfl,.inr ⟨.inl (.inl h1),q _ m' g' P' H' _ e2 ag s' r1 (Wx rz)⟩⟩
 | lst es =>
  cases e1;have h0:=rz;unfold Rep at h0;obtain ⟨a,vs,P1,rfl,h1,h2,_⟩:=h0;exact .inl ⟨a,vs,rfl,.inl ⟨.inl (.inl h1.1),q _ m' g' P' H' _ e2 ag s' r1 (Sw rz)⟩⟩
 | scr ns =>
  cases e1;have h0:=rz;unfold Rep at h0;obtain ⟨⟨a,rfl,h1⟩,_⟩:=h0;exact .inl ⟨a,_,rfl,.inl ⟨h1.sq,q _ m' g' P' H' _ e2 ag s' r1 (Wz rz)⟩⟩
 | str l =>
  cases e1;have h0:=rz;unfold Rep at h0;exact .inr ⟨_,h0.1,q _ m' g' P' H' _ e2 ag s' r1 Wy⟩
 | _=>cases e1
def Vt (K:W.Frag) (p:List Dv->Option (List Dv)) (r:List V->Hp->(It->Hp->Prop)->Prop):Prop:=∀ g H ds vs its Q,Zd g H->Reps K g H 0 ds vs nop->p ds=some its->(∀ J H',Lw H H'->Yl K J its g H'->Q J H')->r vs H Q
def Wf (p:List Dv->Option (List Dv)) (fa:Ev (List Dv)):Ev (List Dv):=fun R m k=>fa R m fun ds m'=>(p ds).bind fun its=>k its m'
abbrev Wb (r:List V->Hp->(It->Hp->Prop)->Prop) (ta:TA):TI:=fun σ H Q=>ta σ H fun vs H1=>r vs H1 Q
theorem TR {K:W.Frag} {pr:List Dv->Option (List Dv)} {r:List V->Hp->(It->Hp->Prop)->Prop} (hp:Vt K pr r) (c:AD Γ as Γ' js) (he:evd as=true) {σ:St} {H:Hp} {Q:It->Hp->Prop} (h:tI K Γ Γ' js (Wf pr (AM as)) σ H Q):Wb r (BM K as) σ H Q:=by
 obtain ⟨g,m,P,rl,R',k,res,e,q⟩:=h;refine AJ as rl c e fun ds m' g' P' vs H1 hk ag s ar r1=>?_
 obtain ⟨its,e1,e2⟩:=bind_some' hk;exact hp g' H1 ds vs its Q r1.zd (ar.reps he) e1 fun J H2 sm yl=>q its m' g' P' H2 J e2 ag ((s.trans (Step.same sm)).less fun _ z=>z) (r1.same sm) yl
noncomputable def small (i:Int):Bool:=-1000000000<=i && i<=1000000000
theorem Pj {i:Int} (h:small i=true):-1000000000<=i/\i<=1000000000:=by
 unfold small at h;rw [Bool.and_eq_true,decide_eq_true_eq,decide_eq_true_eq] at h;exact h
def Bd (ds:List Dv):Option (List Dv):=match ds with
 | [.int n]=>bif small n then some ((List.range n.toNat).map fun k=>.int (0+(k:Nat))) else none
 | _=>none
def bJ:List V->Hp->(It->Hp->Prop)->Prop:=fun vs H1 R=>∃ j:Int,vs=[.int j]/\-(2 ^ 62)<=j/\j < 2 ^ 62/\R (dX 0 j.toNat) H1
theorem Ph {K:W.Frag}:Vt K Bd bJ:=fun g H ds vs its Q zd ra e q=>by
 unfold Bd at e;split at e
 ·rename_i n;cases c:small n with
  | false=>rw [c] at e;cases e
  | true =>
   rw [c] at e;cases e;have hn:=Pj c;unfold Reps at ra;obtain ⟨v,vr,_,_,rfl,h1,h2,_⟩:=ra;unfold Reps at h2;obtain ⟨rfl,_⟩:=h2;rw [rep_int h1];exact ⟨n,rfl,by omega,by omega,q _ H (fun _ _ z=>z) Os⟩
 ·cases e
end
structure Sig:Type 1 where
 ps:List Str
 io:List Nat
 ro:Nat
 nb:Bool
 fn:List Dv->Option (Dv×List Dv)
 cps:(R:Type)->List Dv->(Dv->List Dv->Option R)->Option R
 eq:∀ R ds k,cps R ds k=(fn ds).bind fun p=>k p.1 p.2
def On (n:Nat) (io:List Nat):Gm:=(List.range n).map fun i=>some (if io.contains i then 1 else 0)
def Bk (K:W.Frag) (g:G) (H:Hp) (io:List Nat) (bs:List Dv) (vs:List V) (P:Fp):Prop:=Rel K g H (io.map fun _=>some 1) bs (io.map fun i=>(vs[i]?).map id) P
def NJ (K:W.Frag) (s:Sig):Sp:=fun vs H Q _=>∃ g ds P,Rel K g H (On s.ps.length s.io) ds (vs.map some) P/\∃ d bs,s.fn ds=some (d,bs) /\
 ∀ g' H' v Pv Pb,Step g P H g' (fun a=>Pv a\/Pb a) H'->Rep K g' H' s.ro d v Pv->Bk K g' H' s.io bs vs Pb->Disj Pv Pb->Q v H'
def Kw (n:Nat) (io:List Nat):Gm:=(List.range n).map fun i=>if io.contains i then some 1 else none
def VC (n p:Nat) (io:List Nat):Gm:=On p io++List.replicate (n - p) none
section
variable {K:W.Frag} {g:G} {H:Hp}
theorem Rel.pad {Γ:Gm} {m:M} {vs:List V} {P:Fp} (h:Rel K g H Γ m (vs.map some) P) (n:Nat):Rel K g H (Γ++List.replicate n none) (m++List.replicate n .non) (vs.map some++List.replicate n none) P:=by
 obtain ⟨zd,F,h1,h4⟩:=h;have old:∀ {i o:Nat},(Γ++List.replicate n none)[i]?=some (some o)->i < Γ.length/\Γ[i]?=some (some o):=fun {i o} e=>by
  by_cases z:i < Γ.length
  ·rw [List.getElem?_append_left z] at e;exact ⟨z,e⟩
  ·rw [List.getElem?_append_right (by omega),List.getElem?_replicate] at e;split at e<;>cases e
 refine ⟨zd,F,⟨by simp [h1.l1],by have:=h1.l2;simp at this ⊢;omega,fun i o e=>?_,fun i e=>?_,h1.dj⟩,h4⟩
 ·obtain ⟨hi,e⟩:=old e;obtain ⟨d,v,e1,e2,r⟩:=h1.rep i o e;exact ⟨d,v,by rw [List.getElem?_append_left (by rw [h1.l1];exact hi)];exact e1,by rw [List.getElem?_append_left (by rw [h1.l2];exact hi)];exact e2,r⟩
 ·refine h1.out i fun o z=>e o ?_
  rw [List.getElem?_append_left (List.getElem?_eq_some_iff.mp z).1];exact z
theorem Rel.pick {Γ:Gm} {m:M} {σ:St} {P:Fp} {io:List Nat} (h:Rel K g H Γ m σ P) (nd:io.Nodup) (hl:∀ i∈io,Γ[i]?=some (some 1)):∃ P',Rel K g H (io.map fun _=>some 1) (io.map m.at) (io.map fun i=>(σ[i]?).join) P'/\∀ a,P' a->P a:=by
 obtain ⟨zd,F,h1,h4⟩:=h;refine ⟨fun a=>∃ j i,io[j]?=some i/\F i a,⟨zd,fun j a=>∃ i,io[j]?=some i/\F i a,⟨by simp,by simp,fun j o e=>?_,fun j e a ⟨i,e',_⟩=>?_,fun j k n a ⟨i,e1,q1⟩ ⟨i',e2,q2⟩=>?_⟩,fun _=>Iff.rfl⟩,fun a ⟨j,i,_,q⟩=>(h4 a).mpr ⟨i,q⟩⟩
 ·rw [List.getElem?_map] at e;cases ej:io[j]? with
  | none=>rw [ej] at e;cases e
  | some i =>
   rw [ej] at e;cases e;obtain ⟨d,v,e1,e2,r⟩:=h1.rep i 1 (hl i (List.mem_of_getElem? ej));have eq:(fun a=>∃ i',some i=some i'/\F i' a)=F i:=funext fun a=>propext ⟨fun ⟨i',z,q⟩=>by cases z;exact q,fun q=>⟨i,rfl,q⟩⟩
   exact ⟨d,v,by rw [List.getElem?_map,ej,Option.map_some,Hz e1],by rw [List.getElem?_map,ej,Option.map_some,e2];rfl,by show Rep K g H 1 d v fun a=>∃ i',some i=some i'/\F i' a;rw [eq];exact r⟩
 ·refine e 1 ?_;rw [List.getElem?_map,e'];rfl
 ·by_cases z:i=i'
  ·subst z;refine n ?_;have hj:=(List.getElem?_eq_some_iff.mp e1);have hk:=(List.getElem?_eq_some_iff.mp e2);exact (List.getElem_inj (h₀:=hj.1) (h₁:=hk.1) nd).mp (hj.2.trans hk.2.symm)
  ·exact h1.dj i i' z a q1 q2
end
theorem cN {P:Program} {w:World} {K:W.Frag} {mg:Str->Option Value} {base:Heap} {x qual:Str} {st:Stmt} {f:Addr} {fd:FuncData} {N:List Str} {k:Nat} {s:Sig} (Fn:Fun K x qual st f fd) (S:FnScope N s.ps (AG st)) (nd:s.io.Nodup) (hio:∀ i∈s.io,i < s.ps.length) (hn:s.ps.length<=N.length)
    {body:Es} {Γn:Option Gm} {js:List Nat} (hw:IW (some (Kw N.length s.io)) Γn=true)
    (hb:∀ (cdv:Value) (A:Around) (outer:List Env) (s':Shared) (H:Hp) (E:XK),Room k (A.deeper (PyProof.Rows.envOfC qual (AG st) s'.heap.objs.size f cdv))->Ce (KG Oj P w K mg base N qual (AG st) f cdv A outer s' H E).nox (AR st) (tS K ⟨s.io,Kw N.length s.io,s.ro⟩ none (VC N.length s.ps.length s.io) Γn js body))
    (hΦ:∀ ds d bs,ds.length=s.ps.length->s.fn ds=some (d,bs)->∃ (R:Type) (k:Kt R) (r:R),body R (ds++List.replicate (N.length - s.ps.length) .non) k=some r/\(∀ m,k.nx m=some r->d=.non/\bs=s.io.map m.at)/\(∀ d' m,k.rt d' m=some r->d=d'/\bs=s.io.map m.at)):FnOk P w K mg base Oj (k+1) f fd s.ps (NJ K s):=by
  have ll:∀ n io,(On n io).length=n:=fun n io=>by unfold On;simp
  refine Fn.ok S (fun vs H Q E h=>?_) fun cdv A outer s' H vs Q E hr h=>⟨_,hb cdv A outer s' H E hr,?_⟩
  · obtain ⟨g,ds,Pa,r,_⟩:=h;have:=r.len.2;rw [ll] at this;simpa using this
  · obtain ⟨g,ds,Pa,r,d,bs,e,q⟩:=h;have l1:=r.len.1;have l2:=r.len.2;rw [ll] at l1 l2;rw [List.length_map] at l2;have r0:Rel K g H (VC N.length s.ps.length s.io) (ds++List.replicate (N.length - s.ps.length) .non) (L2.start N vs) Pa:=by
      unfold L2.start VC;rw [l2];exact r.pad _
    have hv:∀ {σ':St},Io s.io (L2.start N vs) σ'->∀ i∈s.io,(σ'[i]?).join=vs[i]?:=fun {σ'} hi i hm=>by
      rw [hi i hm];unfold L2.start;have hl:i < vs.length:=by rw [l2];exact hio i hm
      rw [List.getElem?_append_left (by simpa using hl),List.getElem?_map];cases vs[i]?<;>rfl
    have rg:∀ i∈s.io,(Kw N.length s.io)[i]?=some (some 1):=fun i hi=>by
      unfold Kw;rw [List.getElem?_map,List.getElem?_range (by have:=hio i hi;omega),Option.map_some,if_pos (List.contains_iff_mem.mpr hi)]
    obtain ⟨RT,kt,rt,hb0,hnx,hrt⟩:=hΦ ds d bs l1 e;have fin:∀ {d':Dv} {m':M} {g':G} {P' Pv:Fp} {σ':St} {v:V} {H':Hp},d=d'/\bs=s.io.map m'.at->Step g Pa H g' (fun a=>P' a\/Pv a) H'->Io s.io (L2.start N vs) σ'->Rep K g' H' s.ro d' v Pv->Rel K g' H' (Kw N.length s.io) m' σ' P'->Disj P' Pv->Q v H':=fun {d' m' g' P' Pv σ' v H'} hk st io rv r' n=>by
      obtain ⟨rfl,rfl⟩:=hk;obtain ⟨Pb,hbk,sb⟩:=r'.pick nd rg;refine q g' H' v Pv Pb (st.less fun a z=>z.elim .inr fun z=>.inl (sb a z)) rv ?_ fun a z w=>n a (sb a w) z
      have e:(s.io.map fun i=>(σ'[i]?).join)=s.io.map fun i=>(vs[i]?).map id:=List.map_congr_left fun i hi=>by rw [hv io i hi];cases vs[i]?<;>rfl
      unfold Bk;rw [<- e];exact hbk
    refine ⟨g,_,Pa,r0,RT,kt,rt,hb0,⟨fun Γ' m' g' P' σ' H' eΓ hk ag st' i' r'=>?_,fun d' m' g' P' Pv σ' v H' hk ag st' i' rv r' n=>fin (hrt d' m' hk) st' i' rv r' n,(fun _ _ _ _ _ _ z=>by cases z),fun _ _ _ _ _ _ z=>by cases z⟩⟩;subst eΓ;obtain ⟨g2,P2,s2,r2⟩:=r'.weaken (by unfold IW at hw;exact hw);exact fin (Pv:=nop) (v:=.non) (hnx m' hk) ((st'.trans s2).less fun _ z=>z.elim id False.elim) i' (by unfold Rep;exact ⟨rfl,fun _ z=>z⟩) r2 fun _ _ z=>z
noncomputable def DS (as:List Ar) (i:Nat):Option Nat:=match as[i]? with | some (.rf j)=>some j | _=>none
def slots (as:List Ar) (io:List Nat):List Nat:=io.map fun i=>(DS as i).getD 0
def XY (as:List Ar) (io:List Nat):Bool:=(List.range as.length).all fun i=>((DS as i).isSome == io.contains i) && (List.range as.length).all fun j=>i == j || (DS as i).isNone || (DS as i != DS as j)
noncomputable def Df:List Nat->List Dv->M->M
 | s::sl,b::bs,m=>Df sl bs (m.set s b)
 | _,_,m=>m
def LV (s:Sig) (as:List Ar):Ev Dv:=fun R m k=>AM as R m fun ds m1=>s.cps R ds fun d bs=>k d (Df (slots as s.io) bs m1)
theorem GP:∀ (sl:List Nat) (bs:List Dv) (m:M),(Df sl bs m).length=m.length
 | [],_,_=>rfl
 | _::_,[],_=>rfl
 | s::sl,b::bs,m=>by unfold Df;rw [GP,List.length_set]
theorem EF:∀ (sl:List Nat) (bs:List Dv) (m:M) (j:Nat),j∉sl->(Df sl bs m)[j]?=m[j]?
 | [],_,_,_,_=>rfl
 | _::_,[],_,_,_=>rfl
 | s::sl,b::bs,m,j,h=>by
  unfold Df;rw [EF sl bs _ j fun z=>h (List.mem_cons_of_mem _ z),List.getElem?_set_ne fun z=>h (by rw [z];exact List.mem_cons_self)]
theorem MP:∀ (sl:List Nat) (bs:List Dv) (m:M) (k j:Nat) (b:Dv),sl.Nodup->sl[k]?=some j->bs[k]?=some b->j < m.length->(Df sl bs m)[j]?=some b
 | [],_,_,k,_,_,_,h,_,_=>by simp at h
 | _::_,[],_,k,_,_,_,_,h,_=>by simp at h
 | s::sl,c::bs,m,k,j,b,nd,h1,h2,hl=>by
  unfold Df;rw [List.nodup_cons] at nd;cases k with
  | zero =>
   simp at h1 h2;subst h1 h2;rw [EF sl bs _ s nd.1,List.getElem?_set_self hl]
  | succ k=>exact MP sl bs _ k j b nd.2 (by simpa using h1) (by simpa using h2) (by rw [List.length_set];exact hl)
theorem JU (sl:List Nat) (bs:List Dv) (m:M):BU sl m (Df sl bs m):=⟨GP ..,fun i h=>by
 unfold M.at;rw [List.getD_eq_getElem?_getD,List.getD_eq_getElem?_getD,EF sl bs m i h]⟩
section
variable {K:W.Frag} {g:G} {H:Hp} {σ:St} {Γ Γ':Gm} {js:List Nat} {m:M} {P:Fp} {as:List Ar}
theorem AO.len:∀ {as:List Ar} {ds:List Dv} {vs:List V},AO K g H Γ m σ as ds vs->ds.length=as.length/\vs.length=as.length
 | [],ds,vs,h=>by unfold AO at h;obtain ⟨rfl,rfl⟩:=h;exact ⟨rfl,rfl⟩
 | .ev _ _ _ _::as,ds,vs,h=>by
  unfold AO at h;obtain ⟨d,v,ds',vs',rfl,rfl,_,h2⟩:=h;simp [h2.len.1,h2.len.2]
 | .rf i::as,ds,vs,h=>by
  unfold AO at h;obtain ⟨v,ds',vs',rfl,rfl,_,_,h3⟩:=h;simp [h3.len.1,h3.len.2]
theorem AO.get:∀ {as:List Ar} {ds:List Dv} {vs:List V} {i:Nat},AO K g H Γ m σ as ds vs->i < as.length->∃ d v,ds[i]?=some d/\vs[i]?=some v/\((∃ j,DS as i=some j/\d=m.at j/\σ[j]?=some (some v))\/(DS as i=none/\Rep K g H 0 d v nop))
 | [],_,_,i,_,h=>by simp at h
 | .ev _ _ _ f::as,ds,vs,i,h,hi=>by
  unfold AO at h;obtain ⟨d,v,ds',vs',rfl,rfl,h1,h2⟩:=h;cases i with
  | zero=>exact ⟨d,v,rfl,rfl,.inr ⟨rfl,h1⟩⟩
  | succ i =>
   obtain ⟨d,v,e1,e2,z⟩:=h2.get (i:=i) (by simpa using hi);exact ⟨d,v,by simpa using e1,by simpa using e2,z⟩
 | .rf j::as,ds,vs,i,h,hi=>by
  unfold AO at h;obtain ⟨v,ds',vs',rfl,rfl,h1,_,h3⟩:=h;cases i with
  | zero=>exact ⟨_,v,rfl,rfl,.inl ⟨j,rfl,rfl,h1⟩⟩
  | succ i =>
   obtain ⟨d,v,e1,e2,z⟩:=h3.get (i:=i) (by simpa using hi);exact ⟨d,v,by simpa using e1,by simpa using e2,z⟩
theorem EE {i j:Nat} (h:DS as i=some j):i < as.length:=by
 unfold DS at h;cases e:as[i]? with
 | none=>rw [e] at h;cases h
 | some a=>exact (List.getElem?_eq_some_iff.mp e).1
theorem XX {io:List Nat} (h:XY as io=true):(∀ i,i < as.length->((DS as i).isSome=true↔i∈io))/\∀ i i' j,DS as i=some j->DS as i'=some j->i=i':=by
 unfold XY at h;rw [List.all_eq_true] at h;refine ⟨fun i hi=>?_,fun i i' j e e'=>?_⟩
 ·have:=h i (List.mem_range.mpr hi);rw [Bool.and_eq_true,beq_iff_eq] at this;rw [this.1,List.contains_iff_mem]
 ·have:=h i (List.mem_range.mpr (EE e));rw [Bool.and_eq_true,List.all_eq_true] at this;have:=this.2 i' (List.mem_range.mpr (EE e'));rw [e,e'] at this;simp at this;exact this
theorem Hs {s:Sig} {g1:G} {H1:Hp} {m1:M} {P1:Fp} {ds:List Dv} {vs:List V} {d:Dv} {bs:List Dv} (hs:XY as s.io=true) (hn:as.length=s.ps.length) (nd:s.io.Nodup) (hio:∀ i∈s.io,i < s.ps.length) (hl:∀ i∈slots as s.io,Γ'[i]?=some (some 1)) {Q:VK}
    (r1:Rel K g1 H1 Γ' m1 σ P1) (ar:AO K g1 H1 Γ' m1 σ as ds vs) (e1:s.fn ds=some (d,bs))
    (q:∀ g2 P2 Pv v H2,Step g1 P1 H1 g2 (fun a=>P2 a\/Pv a) H2->Rep K g2 H2 s.ro d v Pv->Rel K g2 H2 Γ' (Df (slots as s.io) bs m1) σ P2->Disj P2 Pv->Q v H2):NJ K s vs H1 Q E0:=by
  obtain ⟨hs1,hs2⟩:=XX hs;have r1':=r1;obtain ⟨zd,F,h1,h4⟩:=r1'
  -- the slots,one by one
  have sl:∀ {i j:Nat},DS as i=some j->i∈s.io/\j∈slots as s.io:=fun {i j} e=>by
    have hi:=(hs1 i (EE e)).mp (by rw [e];rfl);exact ⟨hi,List.mem_map.mpr ⟨i,hi,by rw [e];rfl⟩⟩
  have sl2:∀ {i:Nat},i∈s.io->∃ j,DS as i=some j:=fun {i} hi=>Option.isSome_iff_exists.mp ((hs1 i (by rw [hn];exact hio i hi)).mpr hi)
  have ndS:(slots as s.io).Nodup:=by
    unfold slots;rw [List.nodup_iff_pairwise_ne,List.pairwise_map];refine (List.nodup_iff_pairwise_ne.mp nd).imp_of_mem fun {a b} ha hb n z=>?_
    obtain ⟨ja,ea⟩:=sl2 ha;obtain ⟨jb,eb⟩:=sl2 hb;rw [ea,eb] at z;simp only [Option.getD_some] at z;subst z;exact n (hs2 a b ja ea eb)
  let Fa:Nat->Fp:=fun i a=>∃ j,DS as i=some j/\F j a
  have al:=ar.len;have rA:Rel K g1 H1 (On s.ps.length s.io) ds (vs.map some) fun a=>∃ i,Fa i a:=by
    refine ⟨zd,Fa,⟨by unfold On;simp;rw [al.1,hn],by unfold On;simp;rw [al.2,hn],fun i o ei=>?_,fun i ei a ⟨j,ej,_⟩=>?_,fun i i' n a ⟨j,ej,z⟩ ⟨j',ej',z'⟩=>?_⟩,fun _=>Iff.rfl⟩
    · obtain ⟨hi,eo⟩:=DK ei;obtain ⟨d',v,d1,d2,z⟩:=ar.get (i:=i) (by rw [hn];exact hi);refine ⟨d',v,d1,by rw [List.getElem?_map,d2];rfl,?_⟩;rcases z with ⟨j,ej,rfl,hv⟩ | ⟨ej,z⟩
      · have:o=1:=by
          have:=Option.some.inj eo;rw [if_pos (List.contains_iff_mem.mpr (sl ej).1)] at this;exact this
        subst this;obtain ⟨d3,v3,e3,e4,r3⟩:=h1.rep j 1 (hl j (sl ej).2);rw [hv] at e4;cases e4;have eq:Fa i=F j:=funext fun a=>propext ⟨fun ⟨j',z,q⟩=>by rw [ej] at z;cases z;exact q,fun q=>⟨j,ej,q⟩⟩
        rw [Hz e3,eq];exact r3
      · have:o=0:=by
          have:=Option.some.inj eo;rw [if_neg fun w=>?_] at this
          · exact this
          · obtain ⟨j,w⟩:=sl2 (List.contains_iff_mem.mp w);rw [ej] at w;cases w
        subst this;have eq:Fa i=nop:=nop_iff fun a ⟨j,w,_⟩=>by rw [ej] at w;cases w
        rw [eq];exact z
    · refine ei (if s.io.contains i then 1 else 0) ?_;unfold On;rw [List.getElem?_map,List.getElem?_range (by rw [<- hn];exact EE ej)];rfl
    · by_cases w:j=j'
      · subst w;exact n (hs2 i i' j ej ej')
      · exact h1.dj j j' w a z z'
  let Fr:Nat->Fp:=fun j a=>j∉slots as s.io/\F j a
  have rr:Rel K g1 H1 (KQ (slots as s.io) Γ') m1 σ fun a=>∃ j,Fr j a:=by
    refine ⟨zd,Fr,⟨by unfold KQ;simp;exact h1.l1,by unfold KQ;simp;exact h1.l2,fun j o ej=>?_,fun j ej a ⟨n,z⟩=>?_,fun i j n a q z=>h1.dj i j n a q.2 z.2⟩,fun _=>Iff.rfl⟩
    · obtain ⟨nj,ej⟩:=CZ ej;obtain ⟨d',v,d1,d2,z⟩:=h1.rep j o ej;have eq:Fr j=F j:=funext fun a=>propext ⟨fun w=>w.2,fun w=>⟨nj,w⟩⟩
      exact ⟨d',v,d1,d2,by rw [eq];exact z⟩
    · refine h1.out j (fun o w=>ej o ?_) a z;unfold KQ;have hj:=(List.getElem?_eq_some_iff.mp w).1;rw [List.getElem?_map,List.getElem?_range hj,Option.map_some,if_neg (fun q=>n (List.contains_iff_mem.mp q)),List.getD_eq_getElem?_getD,w];rfl
  have dA:Disj (fun a=>∃ j,Fr j a) fun a=>∃ i,Fa i a:=fun a ⟨j,nj,z⟩ ⟨i,j',ej,z'⟩=>by
    by_cases w:j=j'
    · subst w;exact nj (sl ej).2
    · exact h1.dj j j' w a z z'
  have okA:FpOk g1 H1 fun a=>∃ i,Fa i a:=rA.fpOk
  refine ⟨g1,ds,_,rA,d,bs,e1,fun g2 H2 v Pv Pb s2 rv hb n=>?_⟩;have rr2:=rr.held s2 okA dA;have dB:Disj (fun a=>∃ j,Fr j a) fun a=>Pv a\/Pb a:=s2.out rr.fpOk dA
  obtain ⟨zd2,Fq,q1,q4⟩:=rr2;obtain ⟨zb,Fb,b1,b4⟩:=hb;have lb:bs.length=s.io.length:=by have:=b1.l1;simpa using this
  have fq:∀ {a:Addr},(∃ j,Fr j a)↔∃ j,Fq j a:=fun {a}=>q4 a
  let Fz:Nat->Fp:=fun j a=>(∃ k,(slots as s.io)[k]?=some j/\Fb k a)\/Fq j a
  have nq:∀ j∈slots as s.io,∀ a,¬ Fq j a:=fun j hj=>q1.out j fun o w=>(CZ w).1 hj
  have rz:Rel K g2 H2 Γ' (Df (slots as s.io) bs m1) σ fun a=>∃ j,Fz j a:=by
    refine ⟨zd2,Fz,⟨by rw [GP];exact h1.l1,h1.l2,fun j o ej=>?_,fun j ej a z=>?_,fun i j n' a z w=>?_⟩,fun _=>Iff.rfl⟩
    · have hjl:j < m1.length:=by rw [h1.l1];exact (List.getElem?_eq_some_iff.mp ej).1
      by_cases hj:j∈slots as s.io
      · obtain ⟨kk,hk1⟩:=List.getElem?_of_mem hj;have hkk:kk < s.io.length:=by have:=(List.getElem?_eq_some_iff.mp hk1).1;unfold slots at this;simpa using this
        rw [hl j hj] at ej;cases ej;obtain ⟨b,u,c1,c2,c3⟩:=b1.rep kk 1 (by rw [List.getElem?_map,List.getElem?_eq_getElem hkk];rfl);have ei:(slots as s.io)[kk]?=some ((DS as s.io[kk]).getD 0):=by unfold slots;rw [List.getElem?_map,List.getElem?_eq_getElem hkk];rfl
        obtain ⟨jj,ejj⟩:=sl2 (List.getElem_mem hkk);rw [hk1,ejj] at ei;have ejj':j=jj:=Option.some.inj ei;subst ejj';obtain ⟨d3,v3,d1,d2,z3⟩:=ar.get (i:=s.io[kk]) (EE ejj);rw [List.getElem?_map,List.getElem?_eq_getElem hkk,Option.map_some,d2] at c2;have eu:u=v3:=by simpa using c2.symm
        subst eu;have hv:σ[j]?=some (some u):=by
          rcases z3 with ⟨j2,e2',_,z3⟩ | ⟨e2',_⟩
          · rw [ejj] at e2';cases e2';exact z3
          · rw [ejj] at e2';cases e2'
        have eq:Fz j=Fb kk:=funext fun a=>propext ⟨fun w=>w.elim (fun ⟨k',h',w⟩=>by
            have h1':=List.getElem?_eq_some_iff.mp hk1;have h2':=List.getElem?_eq_some_iff.mp h';have:k'=kk:=(List.getElem_inj (h₀:=h2'.1) (h₁:=h1'.1) ndS).mp (h2'.2.trans h1'.2.symm);exact this▸w) fun w=>(nq j hj a w).elim,fun w=>.inl ⟨kk,hk1,w⟩⟩
        exact ⟨b,u,MP _ bs m1 kk j b ndS hk1 c1 hjl,hv,by rw [eq];exact c3⟩
      · have ej':(KQ (slots as s.io) Γ')[j]?=some (some o):=by
          unfold KQ;rw [List.getElem?_map,List.getElem?_range (List.getElem?_eq_some_iff.mp ej).1,Option.map_some,if_neg (fun w=>hj (List.contains_iff_mem.mp w)),List.getD_eq_getElem?_getD,ej];rfl
        obtain ⟨d3,v3,d1,d2,r3⟩:=q1.rep j o ej';have eq:Fz j=Fq j:=funext fun a=>propext ⟨fun w=>w.elim (fun ⟨k',h',_⟩=>(hj (List.mem_of_getElem? h')).elim) id,.inr⟩
        exact ⟨d3,v3,by rw [EF _ _ _ _ hj];exact d1,d2,by rw [eq];exact r3⟩
    · rcases z with ⟨k',h',z⟩ | z
      · exact ej 1 (hl j (List.mem_of_getElem? h'))
      · refine q1.out j (fun o w=>ej o (CZ w).2) a z
    · rcases z with ⟨k1,h1',z⟩ | z
      · rcases w with ⟨k2,h2',w⟩ | w
        · by_cases kk:k1=k2
          · subst kk;rw [h1'] at h2';exact n' (Option.some.inj h2')
          · exact b1.dj k1 k2 kk a z w
        · exact dB a (fq.mpr ⟨j,w⟩) (.inr ((b4 a).mpr ⟨k1,z⟩))
      · rcases w with ⟨k2,h2',w⟩ | w
        · exact dB a (fq.mpr ⟨i,z⟩) (.inr ((b4 a).mpr ⟨k2,w⟩))
        · exact q1.dj i j n' a z w
  refine q g2 _ Pv v H2 ((s2.frame (R:=fun a=>∃ j,Fr j a)).sub (fun a z=>?_) fun a z=>?_) rv rz fun a z w=>?_
  · rcases z with ⟨i,j,_,z⟩ | ⟨j,_,z⟩
    · exact (h4 a).mpr ⟨j,z⟩
    · exact (h4 a).mpr ⟨j,z⟩
  · rcases z with ⟨j,z⟩ | z
    · rcases z with ⟨k',_,z⟩ | z
      · exact .inl (.inr ((b4 a).mpr ⟨k',z⟩))
      · exact .inr (fq.mpr ⟨j,z⟩)
    · exact .inl (.inl z)
  · obtain ⟨j,z⟩:=z;rcases z with ⟨k',_,z⟩ | z
    · exact n a w ((b4 a).mpr ⟨k',z⟩)
    · exact dB a (fq.mpr ⟨j,z⟩) (.inl w)
theorem Rp {s:Sig} (c:AD Γ as Γ' js) (hs:XY as s.io=true) (hn:as.length=s.ps.length) (nd:s.io.Nodup) (hio:∀ i∈s.io,i < s.ps.length) (hl:∀ i∈slots as s.io,Γ'[i]?=some (some 1)) {Q:VK}
    (h:tE K Γ s.ro Γ' (js++slots as s.io) (LV s as) σ H Q):BM K as σ H fun vs H1=>NJ K s vs H1 Q E0:=by
  obtain ⟨g,m,P,r,R,k,res,e,q⟩:=h;refine AJ as r c e fun ds m1 g1 P1 vs H1 hk ag st ar r1=>?_
  rw [s.eq] at hk;obtain ⟨⟨d,bs⟩,e1,e2⟩:=bind_some' hk;exact Hs hs hn nd hio hl r1 ar e1 fun g2 P2 Pv v H2 st2 rv rz n=>q d _ g2 P2 Pv v H2 e2 (ag.trans (JU _ bs m1)) (st.trans st2) rv rz n
noncomputable def UX:Dv->Bool
 | .non | .bl _ | .int _ | .str _=>true
 | _=>false
theorem UW {g':G} {o o':Nat} {d:Dv} {v:V} {Pv:Fp} (h:Rep K g' H o d v Pv) (e:UX d=true):Rep K g H o' d v nop:=by
 cases d with
 | non=>unfold Rep at h ⊢;exact ⟨h.1,fun _ z=>z⟩
 | bl b=>unfold Rep at h ⊢;exact ⟨h.1,fun _ z=>z⟩
 | int i=>unfold Rep at h ⊢;exact ⟨h.1,fun _ z=>z⟩
 | str l=>unfold Rep at h ⊢;exact ⟨h.1,fun _ z=>z⟩
 | _=>cases e
theorem AO.fz (r:Rel K g H Γ m σ P):∀ {as:List Ar} {ds:List Dv} {vs:List V},AO K g H Γ m σ as ds vs->Reps K (g.add P) H 0 ds vs nop
 | [],ds,vs,h=>by unfold AO at h;obtain ⟨rfl,rfl⟩:=h;exact Reps.nil
 | .ev _ _ _ f::as,ds,vs,h=>by
  unfold AO at h;obtain ⟨d,v,ds',vs',rfl,rfl,h1,h2⟩:=h;exact (Reps.cons (h1.freeze (P:=P) fun _ z=>z.elim) (AO.fz r h2) fun _ z=>z.elim).iff fun a=>⟨fun z=>z.elim,fun z=>z.elim id id⟩
 | .rf i::as,ds,vs,h=>by
  unfold AO at h;obtain ⟨v,ds',vs',rfl,rfl,h1,⟨o,_,ho⟩,h3⟩:=h;obtain ⟨v',P1,e,k,sb⟩:=r.see ho;rw [h1] at e;cases e;exact (Reps.cons (k.freeze (P:=P) sb) (AO.fz r h3) fun _ z=>z.elim).iff fun a=>⟨fun z=>z.elim,fun z=>z.elim id id⟩
theorem Ub {n:Nat} {ds:List Dv} {vs:List V} (zd:Zd g H) (h:Reps K g H 0 ds vs nop) (hn:ds.length=n):Rel K g H (On n []) ds (vs.map some) nop:=by
 refine ⟨zd,fun _=>nop,⟨by unfold On;simp [hn],by unfold On;simp [<- hn,h.len],fun i o e=>?_,fun i e a z=>z,fun i j n a z=>z.elim⟩,fun a=>⟨fun z=>z.elim,fun ⟨i,z⟩=>z⟩⟩;obtain ⟨hi,e⟩:=DK e;have eo:o=0:=(Option.some.inj e);subst eo;obtain ⟨v,_,ev,rv,_⟩:=h.get (List.getElem?_eq_getElem (by omega:i < ds.length));exact ⟨_,v,List.getElem?_eq_getElem (by omega),by rw [List.getElem?_map,ev];rfl,rv.z⟩
def Ij (s:Sig) (as:List Ar):Ev Dv:=fun R m k=>AM as R m fun ds m1=>s.cps R ds fun d _=>bif UX d then k d m1 else none
theorem OM {s:Sig} (c:AD Γ as Γ' js) (hs:s.io=[]) (hn:as.length=s.ps.length) {Q:VK} (h:tE K Γ 1 Γ' js (Ij s as) σ H Q):BM K as σ H fun vs H1=>NJ K s vs H1 Q E0:=by
 obtain ⟨g,m,P,r,R,k,res,e,q⟩:=h;refine AJ as r c e fun ds m1 g1 P1 vs H1 hk ag st ar r1=>?_
 rw [s.eq] at hk;obtain ⟨⟨d,bs⟩,e1,e2⟩:=bind_some' hk;cases c:UX d with
 | false=>simp only [c,cond_false] at e2;cases e2
 | true =>
  simp only [c,cond_true] at e2;have fs:Step g1 P1 H1 (g1.add P1) nop H1:=Step.freeze r1.fpOk;refine ⟨g1.add P1,ds,nop,by rw [hs];exact Ub (fs.zd r1.zd) (ar.fz r1) (ar.len.1.trans hn),d,bs,e1,fun g' H' v Pv Pb s2 rv _ _=>?_⟩;have sm:Lw H1 H':=fun b o hb=>s2.keep b o hb fun z=>z
  exact q d m1 g1 P1 nop v H' e2 ag ((st.trans (Step.same sm)).less fun _ z=>z.elim id False.elim) (UW rv c) (r1.same sm) fun _ _ z=>z
end
end R
namespace L2
open PySem PySem.Spec PyProof.Rows
section
variable {X:Cx}
def gE:R2:=fun x y H Q=>∃ a v,x=.ref a/\HD H a y (some v)/\Q v H
theorem cB (hu:X.A.units+1 < cLine):Oh X gE:=by
 intro value slice pins s σ H x y v u Q I rx ry h hs;obtain ⟨a,z,rfl,g,q⟩:=h;obtain rfl:v=Value.ref a:=rx;have hT:=KC I g;have h2:=OF (Q:=EP X pins σ Q) (E:=X.xe) (A:=X.A) hu I g ry fun w' s3 I3 rw'=>⟨z,H,I3,rw',q⟩
 unfold subscriptTail;refine wpAny_bind ?_;rw [getitemInPython_of_ne hT.not_modules];refine wpAny_bind (wpAny_specialOf hT PySem.F.slot_dict_getitem.lookup ?_);have fin:wpAny (model X.prog X.w) X.A (subscripted slice false (.ref a) u) (fun r s₃=>wpAny (model X.prog X.w) X.A (letTemporaryGo value (.ref a) r >>= fun _=>pure r) (EP X pins σ Q) X.xe s₃) X.xe s:=by
  rw [hs];exact wpAny_operating (wpAny_mono h2 (fun r s₃ h₃=>wpAny_bind (wpAny_letTemporaryGo (wpAny_pure h₃))) fun _ _ x=>x)
 first
  | exact wpAny_pure (wpAny_bind fin)
  | exact wpAny_bind (wpAny_pure (wpAny_bind fin))
  | exact wpAny_bind fin
def gD:Lu:=fun o i v H Q=>∃ a H',o=.ref a/\So H a i v H'/\Q H'
theorem Xa (hu:X.A.units+1 < cLine):Iy X gD:=by
 intro pins s σ H o i v ov iv u Q I ro ri rv h;obtain ⟨a,H',rfl,g,q⟩:=h;obtain rfl:ov=Value.ref a:=ro;exact OE hu I g ri rv fun s4 I4=>⟨H',I4,q⟩
theorem Iy.or {t t':Lu} (h:Iy X t) (h':Iy X t'):Iy X (fun o i v H Q=>t o i v H Q\/t' o i v H Q):=by
 intro pins s σ H o i v ov iv u Q I ro ri rv q;rcases q with q | q
 ·exact h pins s σ H o i v ov iv u Q I ro ri rv q
 ·exact h' pins s σ H o i v ov iv u Q I ro ri rv q
def Xm (neg:Bool):R2:=fun y x H Q=>∃ a o,x=.ref a/\HD H a y o/\Q (.bl (if neg then !o.isSome else o.isSome)) H
theorem YW (hu:X.A.units+1 < cLine):Bx X (compareOp .In) (Xm false):=by
 intro pins s σ H y x u v Q I ry rx h;obtain ⟨a,o,rfl,g,q⟩:=h;obtain rfl:v=Value.ref a:=rx;exact fF hu I g ry fun s3 I3=>⟨.bl o.isSome,H,I3,rfl,q⟩
theorem UP (hu:X.A.units+1 < cLine):Bx X (compareOp .NotIn) (Xm true):=by
 intro pins s σ H y x u v Q I ry rx h;obtain ⟨a,o,rfl,g,q⟩:=h;obtain rfl:v=Value.ref a:=rx;exact VG hu I g ry fun s3 I3=>⟨.bl (!o.isSome),H,I3,rfl,q⟩
def WM:List V->Hp->VK->Prop:=fun xs H Q=>∃ a kvs,xs=[V.ref a]/\H a=some (.dK kvs)/\Q (.int kvs.length) H
theorem Li:BE X (.builtin "len") WM:=OQ
end
end L2
namespace R
open PySem L2
def FK:Dv->Option Av
 | .int i=>some (.inl i)
 | .str l=>some (.inr (tx l))
 | _=>none
def DU (k:Av):List Av->List Dv->Option Dv
 | j::ks,d::ds=>if j=k then some d else DU k ks ds
 | _,_=>none
def OJ (k:Av) (ks:List Av):List Av:=if ks.any (fun j=>decide (j=k))=true then ks else ks++[k]
def OH (k:Av) (x:Dv):List Av->List Dv->List Dv
 | j::ks,d::ds=>(if j=k then x else d)::OH k x ks ds
 | _,_=>[]
def OG (k:Av) (x:Dv) (ks:List Av) (ds:List Dv):List Dv:=if ks.any (fun j=>decide (j=k))=true then OH k x ks ds else ds++[x]
section
variable {K:W.Frag} {g:G} {H:Hp}
theorem IY {o:Nat} {d:Dv} {v:V} {P:Fp} {k:Av} (h:Rep K g H o d v P) (e:FK d=some k):v=kV k:=by
 cases d with
 | int i=>cases e;unfold Rep at h;exact h.1
 | str l=>cases e;unfold Rep at h;exact h.1
 | _=>cases e
theorem KD {k:Av}:∀ {ks:List Av} {ds:List Dv} {us:List V} {R:Fp} {d:Dv},Reps K g H 0 ds us R->DU k ks ds=some d->∃ v,EW (ks.zip us) k=some v/\Rep K g H 0 d v nop
 | [],ds,us,R,d,_,e=>by cases ds<;>cases e
 | j::ks,[],us,R,d,_,e=>by cases e
 | j::ks,x::ds,us,R,d,h,e=>by
  unfold Reps at h;obtain ⟨v,r,P1,P2,rfl,h1,h2,_⟩:=h;unfold DU at e;split at e
  ·rename_i c;cases e;exact ⟨v,by rw [List.zip_cons_cons];exact Cg c,h1.z⟩
  ·rename_i c;obtain ⟨w,e1,e2⟩:=KD h2 e;exact ⟨w,by rw [List.zip_cons_cons,Ci c];exact e1,e2⟩
theorem Hn {k:Av}:∀ {ks:List Av} {ds:List Dv} {us:List V},ks.length=ds.length->ds.length=us.length->(EW (ks.zip us) k).isSome=(DU k ks ds).isSome
 | [],[],_,_,_=>rfl
 | j::ks,d::ds,[],_,h=>by cases h
 | j::ks,d::ds,u::us,h1,h2=>by
  have ih:=Hn (k:=k) (ks:=ks) (ds:=ds) (us:=us) (by simpa using h1) (by simpa using h2);rw [List.zip_cons_cons];unfold DU
  by_cases c:j=k
  ·rw [Cg (p:=(j,u)) c,if_pos c];rfl
  ·rw [Ci (p:=(j,u)) c,if_neg c];exact ih
theorem Rc {k:Av} {x:Dv} {w:V} {ks:List Av} {ds:List Dv} {us:List V} {R:Fp} (hl:ks.length=ds.length) (h:Reps K g H 0 ds us R) (hx:Rep K g H 0 x w nop) :
    ∃ us',Ex (ks.zip us) k w=(OJ k ks).zip us'/\Reps K g H 0 (OG k x ks ds) us' nop/\(OJ k ks).length=(OG k x ks ds).length:=by
  have hl2:ks.length=us.length:=by rw [hl,h.len]
  have any_eq:∀ {ks:List Av} {us:List V},ks.length=us.length->((ks.zip us).any fun kv=>decide (kv.1=k))=ks.any fun j=>decide (j=k):=fun {ks us} h=>by
    induction ks generalizing us with
    | nil=>rfl
    | cons j ks ih =>
      cases us with
      | nil=>cases h
      | cons u us=>rw [List.zip_cons_cons,List.any_cons,List.any_cons,ih (by simpa using h)]
  unfold Ex OJ OG;rw [any_eq hl2]
  by_cases c:(ks.any fun j=>decide (j=k))=true
  · rw [if_pos c,if_pos c,if_pos c];have:∀ {ks:List Av} {ds:List Dv} {us:List V} {R:Fp},ks.length=ds.length->Reps K g H 0 ds us R->∃ us',((ks.zip us).map fun kv=>if kv.1=k then (kv.1,w) else kv)=ks.zip us'/\Reps K g H 0 (OH k x ks ds) us' nop/\ks.length=(OH k x ks ds).length:=fun {ks ds us R} hl h=>by
      induction ks generalizing ds us R with
      | nil=>exact ⟨[],by simp,by cases ds<;>exact Reps.nil,by cases ds<;>rfl⟩
      | cons j ks ih =>
        cases ds with
        | nil=>cases hl
        | cons d ds =>
          unfold Reps at h;obtain ⟨v,r,P1,P2,rfl,h1,h2,_⟩:=h;obtain ⟨us',e1,e2,e3⟩:=ih (by simpa using hl) h2;refine ⟨(if j=k then w else v)::us',?_,?_,by simp [OH];omega⟩
          · rw [List.zip_cons_cons,List.map_cons,List.zip_cons_cons,e1]
            by_cases q:j=k<;>simp [q]
          · unfold OH;refine ((Reps.cons (P1:=nop) (P2:=nop) ?_ e2 (fun _ z=>z.elim)).iff fun a=>⟨fun z=>z.elim,fun z=>z.elim id id⟩)
            by_cases q:j=k
            · rw [if_pos q,if_pos q];exact hx
            · rw [if_neg q,if_neg q];exact h1.z
    exact this hl h
  · rw [if_neg c,if_neg c,if_neg c];refine ⟨us++[w],?_,?_,by simp [hl]⟩
    · rw [List.zip_append hl2];rfl
    · exact (Reps.app (P:=nop) (Q:=nop) h.z ((Reps.cons (P1:=nop) (P2:=nop) hx Reps.nil fun _ z=>z.elim).iff fun a=>⟨fun z=>z.elim,fun z=>z.elim id id⟩) fun _ z=>z.elim).iff fun a=>⟨fun z=>z.elim,fun z=>z.elim id id⟩
theorem VF {o:Nat} {ks:List Av} {ds:List Dv} {v:V} {P:Fp} (h:Rep K g H o (.dct ks ds) v P):∃ a us,v=.ref a/\H a=some (.dK (ks.zip us))/\ks.length=ds.length/\Reps K g H 0 ds us nop:=by
 unfold Rep at h;obtain ⟨a,us,e,h1,_,_,⟨h5,R,h6⟩,_⟩:=h;exact ⟨a,us,e,h1,h5,h6.z⟩
theorem UM {ks:List Av} {ds:List Dv} {v:V} {P:Fp} (h:Rep K g H 1 (.dct ks ds) v P):∃ a us,v=.ref a/\H a=some (.dK (ks.zip us))/\ks.length=ds.length/\Reps K g H 0 ds us nop /\
    ∀ ks' ds' us',ks'.length=ds'.length->Reps K g H 0 ds' us' nop->Step g P H g P (upd H a (.dK (ks'.zip us')))/\Rep K g (upd H a (.dK (ks'.zip us'))) 1 (.dct ks' ds') (.ref a) P:=by
  have ok:=h.fpOk;unfold Rep at h;obtain ⟨a,us,e,h1,h2,h3,⟨h5,R,h6⟩,h4⟩:=h;have pa:P a:=(h4 a).mpr ⟨by decide,rfl⟩;refine ⟨a,us,e,h1,h5,h6.z,fun ks' ds' us' hl hr=>?_⟩;have st:Step g P H g P (upd H a (.dK (ks'.zip us'))):=by
    refine ⟨fun b o hb n=>?_,fun b hb=>?_,fun _ z=>z,fun _ z=>.inl z,⟨[],by simp⟩,fun _ z=>.inl z,fun z b hb q=>?_⟩
    · unfold upd;rw [if_neg fun e=>n (by rw [e];exact pa)];exact hb
    · unfold upd at hb;split at hb
      · cases hb
      · exact hb
    · unfold upd at q;split at q
      · cases q
      · exact z b hb q
  refine ⟨st,?_⟩;unfold Rep;exact ⟨a,us',rfl,by unfold upd;rw [if_pos rfl],(fun z=>(Nat.one_ne_zero z).elim),(fun _=>h3 (by decide)),⟨hl,nop,hr.held st ok fun _ z=>z.elim⟩,h4⟩
end
noncomputable abbrev Mu:=Dv->List Dv->Option (Dv×Dv)
def Sm (K:W.Frag) (p:Mu) (R:V->List V->Hp->VK->Prop):Prop:=∀ g H x v P ds us r y Q,Zd g H->Rep K g H 1 x v P->Reps K g H 0 ds us nop->p x ds=some (r,y) ->
 (∀ w H' P',Step g P H g P' H'->Rep K g H' 1 y v P'->Rep K g H' 0 r w nop->Q w H')->R v us H Q
noncomputable def kind:Dv->String
 | .lst _ => "list"
 | .scr _ => "list"
 | .str _ => "str"
 | .int _ => "int"
 | .dti _ => "dict"
 | .dct _ _ => "dict"
 | .tup _ => "tuple"
 | _ => "?"
def Cu {α:Type} (T:String) (d:Dv) (o:Option α):Option α:=if kind d=T then o else none
theorem Ct {α:Type} {T:String} {d:Dv} {o:Option α} {a:α} (h:Cu T d o=some a):kind d=T/\o=some a:=by
 unfold Cu at h;split at h
 ·rename_i z;exact ⟨z,h⟩
 ·cases h
def RF (T:String) (i:Nat) (p:Mu) (fa:Ev (List Dv)):Ev Dv:=fun R m k=>Cu T (m.at i) (fa R m fun ds m1=>(p (m1.at i) ds).bind fun r=>k r.1 (m1.set i r.2))
section
variable {K:W.Frag} {g:G} {H:Hp} {σ:St} {Γ Γ':Gm} {js:List Nat} {as:List Ar}
theorem Ke {o:Nat} {d:Dv} {v:V} {P:Fp} {T:String} (h:Rep K g H o d v P) (e:kind d=T) (hT:T = "list" \/ T = "str" \/ T = "int" \/ T = "dict"):da K T v H:=by
 subst e;cases d with
 | lst ds=>unfold Rep at h;obtain ⟨a,vs,P',rfl,h1,_⟩:=h;exact .inl ⟨rfl,vs,.inl (.inl h1.1)⟩
 | scr ns=>unfold Rep at h;obtain ⟨⟨a,rfl,h1⟩,_⟩:=h;exact .inl ⟨rfl,_,h1.sq⟩
 | str l=>unfold Rep at h;rw [h.1];rfl
 | int i=>unfold Rep at h;rw [h.1];rfl
 | dti l=>unfold Rep at h;obtain ⟨a,rfl,h1,_⟩:=h;exact .inr (.inr (.inl ⟨rfl,.inr ⟨_,h1⟩⟩))
 | dct ks l=>unfold Rep at h;obtain ⟨a,vs,rfl,h1,_⟩:=h;exact .inr (.inr (.inl ⟨rfl,.inl ⟨_,h1⟩⟩))
 | _=>rcases hT with h | h | h | h<;>simp [kind] at h
theorem UY {T:String} {i:Nat} {p:Mu} {R:V->List V->Hp->VK->Prop} (hR:Sm K p R) (hT:T = "list" \/ T = "str" \/ T = "int" \/ T = "dict") (c:AD Γ as Γ' js) (he:evd as=true) (h0:∃ o,Γ[i]?=some (some o)) (hi:Γ'[i]?=some (some 1)) {Q:VK}
    (h:tE K Γ 0 Γ' (js++[i]) (RF T i p (AM as)) σ H Q):aa K T R (Fm i) (BM K as) σ H Q:=by
  obtain ⟨g,m,P,r,R',k,res,e,q⟩:=h;obtain ⟨e0,e⟩:=Ct e;obtain ⟨o0,h0⟩:=h0;obtain ⟨v0,P0,ev0,rv0,_⟩:=r.see h0;refine ⟨v0,ev0,Ke rv0 e0 hT,AJ as r c e fun ds m1 g1 P1 vs H1 hk ag s ar r1=>?_⟩;obtain ⟨⟨rs,y⟩,e1,e2⟩:=bind_some' hk;obtain ⟨v,Pa,Pr,ev,em,rv,r2,n,hP⟩:=r1.take hi;rw [ev0] at ev;cases ev;refine hR g1 H1 _ v0 Pa ds vs rs y Q r1.zd rv (ar.reps he) e1 fun w H2 P' s2 ry rr=>?_
  have r3:=r2.held s2 rv.fpOk fun a q z=>n a z q
  have n3:=s2.out r2.fpOk fun a q z=>n a z q
  have hil:i < Γ'.length:=(List.getElem?_eq_some_iff.mp hi).1;obtain ⟨P4,r4,sp⟩:=r3.putIn hil ev0 ry fun a q z=>n3 a z q
  rw [GD hi] at r4;refine q rs _ g1 P4 nop w H2 e2 (ag.trans BU.set) (s.trans ((s2.frame (R:=Pr)).sub (fun a z=>(hP a).mpr z) fun a z=>z.elim (fun z=>sp a z) False.elim)) rr r4 fun _ _ z=>z
theorem Step.upd {a:Addr} {o:HO} {P':Fp} (h:H a≠none) (hs:∀ b,P' b->b=a\/H b=none):Step g (fun b=>b=a) H g P' (upd H a o):=by
 have dm:∀ b,L2.upd H a o b=none->H b=none:=fun b q=>by
  by_cases hb:b=a
  ·subst hb;rw [BL] at q;cases q
  ·rw [AQ hb] at q;exact q
 exact ⟨fun b u q n=>by rw [AQ n];exact q,dm,fun _ q=>q,fun _ q=>.inl q,⟨[],by simp⟩,hs,fun z b q e=>z b q (dm b e)⟩
theorem FV {xs:List Dv} {v:V} {P:Fp} (h:Rep K g H 1 (.lst xs) v P):∃ a vs,v=.ref a/\H a=some (.lst vs)/\¬ g.Z a/\Reps K g H 0 xs vs nop/\(∀ b,P b↔b=a) /\
    ∀ ws,Step g P H g P (upd H a (.lst ws))/\(∀ {d:Dv} {u:V},Rep K g H 0 d u nop->Rep K g (upd H a (.lst ws)) 0 d u nop)/\∀ ys,Reps K g H 0 ys ws nop->Rep K g (upd H a (.lst ws)) 1 (.lst ys) (.ref a) P:=by
  unfold Rep at h;obtain ⟨a,vs,P',rfl,h1,h2,h3,h5⟩:=h;have hP:∀ b,P b↔b=a:=fun b=>by rw [h5 b];exact ⟨fun z=>z.elim (fun z=>z.2) fun z=>(h2.none0 b z).elim,fun z=>.inl ⟨by decide,z⟩⟩
  have eP:P=fun b=>b=a:=funext fun b=>propext (hP b)
  have hz:=h1.2.2 (by decide);have oka:FpOk g H fun b=>b=a:=fun b q=>by subst q;exact ⟨by rw [h1.1];trivial,hz⟩
  refine ⟨a,vs,rfl,h1.1,hz,h2.z,hP,fun ws=>?_⟩;have st:Step g (fun b=>b=a) H g (fun b=>b=a) (upd H a (.lst ws)):=Step.upd (by rw [h1.1];simp) fun b z=>.inl z
  refine ⟨by rw [eP];exact st,fun r=>r.held st oka fun _ z=>z.elim,fun ys r=>?_⟩;unfold Rep;exact ⟨a,ws,nop,rfl,⟨BL,(fun z=>by cases z),fun _=>hz⟩,r.held st oka fun _ z=>z.elim,fun z=>z,fun b=>by rw [hP b];exact ⟨fun z=>.inl ⟨by decide,z⟩,fun z=>z.elim (fun z=>z.2) False.elim⟩⟩
theorem CO:∀ {ds:List Dv} {vs:List V},Reps K g H 0 ds vs nop↔ds.length=vs.length/\∀ (i:Nat) (d:Dv) (v:V),ds[i]?=some d->vs[i]?=some v->Rep K g H 0 d v nop
 | [],vs=>⟨fun h=>⟨h.len,fun i d v e=>by simp at e⟩,fun h=>by
  have:vs=[]:=List.eq_nil_of_length_eq_zero h.1.symm;subst this;exact Reps.nil⟩
 | x::xs,vs=>by
  refine ⟨fun h=>⟨h.len,fun i d v e1 e2=>?_⟩,fun h=>?_⟩
  ·obtain ⟨v',P,e',r,_⟩:=h.get e1;rw [e2] at e';cases e';exact r.z
  ·cases vs with
   | nil=>simp at h
   | cons v vs =>
    exact (Reps.cons (h.2 0 x v rfl rfl) (CO.mpr ⟨by simpa using h.1,fun i d u e1 e2=>h.2 (i+1) d u (by simpa using e1) (by simpa using e2)⟩) fun _ z=>z.elim).iff fun a=>⟨fun z=>z.elim,fun z=>z.elim id id⟩
theorem CN {ds es:List Dv} {vs us:List V} (h:Reps K g H 0 ds vs nop) (k:Reps K g H 0 es us nop):Reps K g H 0 (ds++es) (vs++us) nop:=(Reps.app h k fun _ z=>z.elim).iff fun a=>⟨fun z=>z.elim,fun z=>z.elim id id⟩
theorem NO {d:Dv} {v:V} (h:Rep K g H 0 d v nop):Reps K g H 0 [d] [v] nop:=(Reps.cons h Reps.nil fun _ z=>z.elim).iff fun a=>⟨fun z=>z.elim,fun z=>z.elim id id⟩
theorem BF {d:Dv} {ds:List Dv} {vs:List V} (h:Reps K g H 0 (d::ds) vs nop):∃ v us,vs=v::us/\Rep K g H 0 d v nop/\Reps K g H 0 ds us nop:=by
 unfold Reps at h;obtain ⟨v,r,P1,P2,rfl,h1,h2,_⟩:=h;exact ⟨v,r,rfl,h1.z,h2.z⟩
theorem BJ {vs:List V} (h:Reps K g H 0 [] vs nop):vs=[]:=by unfold Reps at h;exact h.1
theorem NN {ds:List Dv} {vs:List V} {d:Dv} {v:V} (j:Nat) (h:Reps K g H 0 ds vs nop) (r:Rep K g H 0 d v nop):Reps K g H 0 (ds.set j d) (vs.set j v) nop:=by
 have h0:=CO.mp h;refine CO.mpr ⟨by simp [h0.1],fun i x y e1 e2=>?_⟩;rcases DE e1 with ⟨rfl,rfl⟩ | ⟨n,e1⟩
 ·rcases DE e2 with ⟨_,rfl⟩ | ⟨n,_⟩
  ·exact r
  ·exact (n rfl).elim
 ·rcases DE e2 with ⟨z,_⟩ | ⟨_,e2⟩
  ·exact (n z).elim
  ·exact h0.2 i x y e1 e2
theorem Ew {o:Nat}:Rep K g H o .non .non nop:=by unfold Rep;exact ⟨rfl,fun _ z=>z⟩
noncomputable def Aa (x:Dv) (ds:List Dv):Option (Dv×Dv):=match x,ds with
 | .lst xs,[d]=>if xs.length<=1000000 then some (.non,.lst (xs++[d])) else none
 | _,_=>none
noncomputable def Of (x:Dv) (ds:List Dv):Option (Dv×Dv):=match x,ds with
 | .lst xs,[]=>match xs.getLast? with
  | some d=>some (d,.lst xs.dropLast)
  | none=>none
 | _,_=>none
noncomputable def DR (x:Dv) (ds:List Dv):Option (Dv×Dv):=match x,ds with
 | .lst xs,[.lst ys]=>if xs.length+ys.length<=1000000 then some (.non,.lst (xs++ys)) else none
 | _,_=>none
theorem Ng:Sm K Aa MO:=fun g H x v P ds us r y Q zd rx rd e k=>by
 unfold Aa at e;split at e
 ·rename_i xs d;split at e
  ·rename_i hl;cases e;obtain ⟨a,vs,rfl,ha,hz,hx,hP,go⟩:=FV rx;obtain ⟨u,us',rfl,hu,h2⟩:=BF rd;cases BJ h2;obtain ⟨s,hd,mk⟩:=go (vs++[u]);exact ⟨a,vs,u,rfl,rfl,ha,Nat.lt_of_le_of_lt (by rw [<- hx.len];exact hl) (by decide),k _ _ P s (mk _ (CN hx (NO hu))) Ew⟩
  ·cases e
 ·cases e
theorem Yc:Sm K Of bL:=fun g H x v P ds us r y Q zd rx rd e k=>by
 unfold Of at e;split at e
 ·rename_i xs;split at e
  ·rename_i d el;cases e;obtain ⟨a,vs,rfl,ha,hz,hx,hP,go⟩:=FV rx;cases BJ rd;obtain ⟨s,hd,mk⟩:=go vs.dropLast;have h0:=CO.mp hx;rw [List.getLast?_eq_getElem?] at el;obtain ⟨u,P1,e2,r2,_⟩:=hx.get el;refine ⟨a,vs,u,rfl,rfl,ha,by rw [<- h0.1];exact e2,k _ _ P s (mk _ ?_) (hd r2.z)⟩;refine CO.mpr ⟨by simp [h0.1],fun i d v e3 e4=>?_⟩;rw [List.getElem?_dropLast] at e3 e4;split at e3
   ·split at e4
    ·exact h0.2 i d v e3 e4
    ·cases e4
   ·cases e3
  ·cases e
 ·cases e
theorem Nf:Sm K DR MN:=fun g H x v P ds us r y Q zd rx rd e k=>by
 unfold DR at e;split at e
 ·rename_i xs ys;split at e
  ·rename_i hl;cases e;obtain ⟨a,vs,rfl,ha,hz,hx,hP,go⟩:=FV rx;obtain ⟨u,us',rfl,hu,h2⟩:=BF rd;cases BJ h2;unfold Rep at hu;obtain ⟨b,ws,P',rfl,h1,h3,_⟩:=hu;obtain ⟨s,hd,mk⟩:=go (vs++ws);exact ⟨a,b,vs,ws,rfl,rfl,ha,h1.1,Nat.le_trans (by rw [<- hx.len,<- h3.len];exact hl) (by decide),k _ _ P s (mk _ (CN hx h3.z)) Ew⟩
  ·cases e
 ·cases e
end
def Wg (i:Nat) (p:Dv->Dv->Dv->Option Dv) (f:Ev Dv) (fk:Ev (List Dv)):Es:=fun R m k=>f R m fun d m1=>fk R m1 fun ks m2=>match ks with | [j]=>(p (m2.at i) j d).bind fun y=>k.nx (m2.set i y) | _=>none
def AS (x k d:Dv):Option Dv:=match x,k with
 | .lst xs,.int k=>(Jo xs.length k).bind fun j=>some (.lst (xs.set j d))
 | .dct ks ds,k=>(FK k).bind fun k=>if ks.length<=1000000 then some (.dct (OJ k ks) (OG k d ks ds)) else none
 | _,_=>none
def Zu (K:W.Frag) (p:Dv->Dv->Dv->Option Dv) (T:Lu):Prop:=∀ g H x v P j vj d u y (Q:Hp->Prop),Zd g H->Rep K g H 1 x v P->RA K g H [j] [vj]->Rep K g H 0 d u nop->p x j d=some y->(∀ H' P',Step g P H g P' H'->Rep K g H' 1 y v P'->Q H')->T v vj u H Q
theorem XZ {K:W.Frag}:Zu K AS (fun o i v H Q=>QC o i v H Q\/gD o i v H Q):=fun g H x v P j vj d u y Q zd rx rj rd e q=>by
 unfold AS at e;split at e
 ·rename_i xs kk;obtain ⟨jj,ej,e⟩:=bind_some' e;cases e;obtain ⟨a,vs,rfl,ha,hz,hx,hP,go⟩:=FV rx;unfold RA at rj;obtain ⟨w,wr,o,Po,ew,_,rw',_⟩:=rj;cases ew;rw [rep_int rw'];obtain ⟨s,hd,mk⟩:=go (vs.set jj u);exact .inl ⟨a,vs,kk,jj,rfl,rfl,ha,by rw [<- hx.len];exact ej,q _ P s (mk _ (NN jj hx rd))⟩
 ·rename_i ks ds;obtain ⟨k,ek,e⟩:=bind_some' e;split at e
  ·rename_i hl;cases e;obtain ⟨a,us,rfl,ha,hl2,hx,go⟩:=UM rx;unfold RA at rj;obtain ⟨w,wr,o,Po,ew,_,rw',_⟩:=rj;cases ew;obtain ⟨us',e1,e2,e3⟩:=Rc (k:=k) hl2 hx rd;obtain ⟨s,mk⟩:=go _ _ us' e3 e2;refine .inr ⟨a,_,rfl,?_,q _ P s mk⟩;rw [IY rw' ek,<- e1];refine So.k ha ?_;have:(ks.zip us).length<=ks.length:=by rw [List.length_zip];omega
   have z:(1000000:Nat) < sizeLine:=by decide
   omega
  ·cases e
 ·cases e
section
variable {K:W.Frag} {F:Fr} {Γl:Option Gm} {Γ Γ1 Γ':Gm} {js js2:List Nat} {i:Nat} {f:Ev Dv} {a:Ar} {p:Dv->Dv->Dv->Option Dv} {T:Lu}
theorem Pm (hp:Zu K p T) (c:AD Γ1 [a] Γ' js2) (h0:∃ o,Γ1[i]?=some (some o)) (hi:Γ'[i]?=some (some 1)) {D:Ends} {σ:St} {H:Hp} (h:tS K F Γl Γ (some Γ') (js++(js2++[i])) (Wg i p f (AM [a])) D σ H):Km (tE K Γ 0 Γ1 js f) (cK (Fm i) (Gr K a) T) D σ H:=by
 obtain ⟨g,m,P,r,R,k,res,e,q⟩:=h;refine ⟨g,m,P,r,R,_,res,e,fun d m1 g1 P1 Pv u H1 hk ag s rv r1 n=>?_⟩;obtain ⟨o0,h0⟩:=h0;obtain ⟨v0,P0,ev0,_,_⟩:=r1.see h0;refine ⟨v0,ev0,?_⟩;have rz:=rv.z;have s':Step g P H g1 P1 H1:=s.less fun _ z=>.inl z
 have key:BM K [a] σ H1 fun vs H2=>∃ w,vs=[w]/\T v0 w u H2 fun H3=>D.nx σ H3:=by
  refine AJ [a] r1 c hk fun ds m2 g2 P2 vs H2 hk2 ag2 s2 ar r2=>?_
  have al:=ar.len;have ra:=ar.ra r2
  match ds,al.1,hk2,ra with
  | [j],_,hk2,ra =>
   have ra0:=ra;unfold RA at ra;obtain ⟨w,wr,o,Po,rfl,_,h1,h2⟩:=ra;unfold RA at h2;subst h2;obtain ⟨y,e1,e2⟩:=bind_some' hk2;obtain ⟨v,Pa,Pr,ev,em,rx,r3,n3,hP⟩:=r2.take hi;rw [ev0] at ev;cases ev;refine ⟨w,rfl,hp g2 H2 _ v0 Pa j w d u y _ r2.zd rx ra0 (rz.held s2 r1.fpOk fun _ z=>z.elim) e1 fun H3 P' s3 ry=>?_⟩;have r4:=r3.held s3 rx.fpOk fun a q z=>n3 a z q
   have n4:=s3.out r3.fpOk fun a q z=>n3 a z q
   obtain ⟨P5,r5,sp⟩:=r4.putIn (List.getElem?_eq_some_iff.mp hi).1 ev0 ry fun a q z=>n4 a z q
   rw [GD hi] at r5;exact q.nx Γ' _ g2 P5 σ H3 rfl e2 (ag.trans (ag2.trans BU.set)) ((s'.trans s2).trans ((s3.frame (R:=Pr)).sub (fun a z=>(hP a).mpr z) fun a z=>sp a z)) Io.refl r5
 have mono:∀ (Q1 Q2:VK),(∀ v H,Q1 v H->Q2 v H)->Gr K a σ H1 Q1->Gr K a σ H1 Q2:=by
  intro Q1 Q2 h12 t;cases a with
  | ev Γa Γb ja fa =>
   obtain ⟨g,m,P,r,R,k,res,e,q⟩:=t;exact ⟨g,m,P,r,R,k,res,e,fun d m' g' P' Pv v H' h1 h2 h3 h4 h5 h6=>h12 _ _ (q d m' g' P' Pv v H' h1 h2 h3 h4 h5 h6)⟩
  | rf i=>obtain ⟨v,e,q⟩:=t;exact ⟨v,e,h12 _ _ q⟩
 refine mono _ _ (fun v H2 z=>?_) key;obtain ⟨w,ew,z⟩:=z;cases ew;exact z
end
def RG (T:String) (a:Ar) (as:List Ar) (p:Pr):Ev Dv:=match a with
 | .rf i=>fun R m k=>Cu T (m.at i) (AM as R m fun ds m1=>(p (m1.at i::ds)).bind fun d=>k d m1)
 | .ev _ _ _ f=>fun R m k=>f R m fun x m1=>Cu T x (AM as R m1 fun ds m2=>(p (x::ds)).bind fun d=>k d m2)
def Zw (r:V->List V->Hp->VK->Prop):Og:=fun vs H Q=>match vs with | x::us=>r x us H Q | _=>False
theorem Yd {K:W.Frag} {σ:St} {H:Hp} {Γ Γ':Gm} {js:List Nat} {T:String} {a:Ar} {as:List Ar} {p:Pr} {o:Nat} {r:V->List V->Hp->VK->Prop} (hp:AH K p o (Zw r)) (hT:T = "list" \/ T = "str" \/ T = "int" \/ T = "dict") (c:AD Γ (a::as) Γ' js) {Q:VK}
    (h:tE K Γ o Γ' js (RG T a as p) σ H Q):aa K T r (Gr K a) (BM K as) σ H Q:=by
  obtain ⟨g,m,P,rl,R',k,res,e,q⟩:=h;cases a with
  | rf i =>
    obtain ⟨e0,e⟩:=Ct e;unfold AD at c;obtain ⟨⟨o0,h0⟩,⟨o1,hl1,h1⟩,c⟩:=c;obtain ⟨v0,P0,ev0,rv0,_⟩:=rl.see h0;refine ⟨v0,ev0,Ke rv0 e0 hT,AJ as rl c e fun ds m1 g1 P1 vs H1 hk ag s ar r1=>?_⟩;obtain ⟨d,e1,e2⟩:=bind_some' hk;obtain ⟨v1,P1',ev1,rv1,_⟩:=r1.see h1;rw [ev0] at ev1;cases ev1;refine hp g1 H1 _ (v0::vs) d Q r1.zd (by unfold RA;exact ⟨v0,vs,o1,P1',rfl,hl1,rv1,ar.ra r1⟩) e1 fun v H2 nw=>?_
    obtain ⟨Pv,s2,h1,r2,n2⟩:=AV.go s r1 nw;exact q d m1 g1 P1 Pv v H2 e2 ag s2 h1 r2 n2
  | ev Γ1 Γ2 js1 f =>
    unfold AD at c;obtain ⟨rfl,js2,rfl,c⟩:=c;refine ⟨g,m,P,rl,R',_,res,e,fun x m1 g1 P1 Pv v0 H1 hk ag s rv r1 n=>?_⟩;obtain ⟨e0,hk⟩:=Ct hk;have rz:=rv.z;have s':Step g P H g1 P1 H1:=s.less fun _ z=>.inl z
    refine ⟨Ke rz e0 hT,AJ as r1 c hk fun ds m2 g2 P2 vs H2 hk2 ag2 s2 ar r2=>?_⟩;obtain ⟨d,e1,e2⟩:=bind_some' hk2;refine hp g2 H2 _ (v0::vs) d Q r2.zd (by unfold RA;exact ⟨v0,vs,0,nop,rfl,by decide,rz.held s2 r1.fpOk fun _ z=>z.elim,ar.ra r2⟩) e1 fun v H3 nw=>?_
    obtain ⟨Pw,s3,h1,r3,n3⟩:=AV.go (s'.trans s2) r2 nw;exact q d m2 g2 P2 Pw v H3 e2 (ag.trans ag2) s3 h1 r3 n3
theorem Ua {K:W.Frag} {σ:St} {H:Hp} {Γ Γ':Gm} {js:List Nat} {a:Ar} {as:List Ar} {p:Pr} {o:Nat} {r:V->List V->Hp->VK->Prop} (hp:AH K p o (Zw r)) (c:AD Γ (a::as) Γ' js) {Q:VK}
    (h:tE K Γ o Γ' js (RG "tuple" a as p) σ H Q):eV r (Gr K a) (BM K as) σ H Q:=by
  obtain ⟨g,m,P,rl,R',k,res,e,q⟩:=h
  have ty:∀ {g:G} {H:Hp} {o:Nat} {d:Dv} {v:V} {P:Fp},Rep K g H o d v P->kind d = "tuple" -> ∃ a us,v=.ref a/\H a=some (.tup us):=fun {g H o d v P} h e=>by
    cases d with
    | tup ds=>unfold Rep at h;obtain ⟨a,vs,rfl,h1,_⟩:=h;exact ⟨a,vs,rfl,h1⟩
    | _=>simp [kind] at e
  cases a with
  | rf i =>
    obtain ⟨e0,e⟩:=Ct e;unfold AD at c;obtain ⟨⟨o0,h0⟩,⟨o1,hl1,h1⟩,c⟩:=c;obtain ⟨v0,P0,ev0,rv0,_⟩:=rl.see h0;refine ⟨v0,ev0,ty rv0 e0,AJ as rl c e fun ds m1 g1 P1 vs H1 hk ag s ar r1=>?_⟩;obtain ⟨d,e1,e2⟩:=bind_some' hk;obtain ⟨v1,P1',ev1,rv1,_⟩:=r1.see h1;rw [ev0] at ev1;cases ev1;refine hp g1 H1 _ (v0::vs) d Q r1.zd (by unfold RA;exact ⟨v0,vs,o1,P1',rfl,hl1,rv1,ar.ra r1⟩) e1 fun v H2 nw=>?_
    obtain ⟨Pv,s2,h1,r2,n2⟩:=AV.go s r1 nw;exact q d m1 g1 P1 Pv v H2 e2 ag s2 h1 r2 n2
  | ev Γ1 Γ2 js1 f =>
    unfold AD at c;obtain ⟨rfl,js2,rfl,c⟩:=c;refine ⟨g,m,P,rl,R',_,res,e,fun x m1 g1 P1 Pv v0 H1 hk ag s rv r1 n=>?_⟩;obtain ⟨e0,hk⟩:=Ct hk;have rz:=rv.z;have s':Step g P H g1 P1 H1:=s.less fun _ z=>.inl z
    refine ⟨ty rz e0,AJ as r1 c hk fun ds m2 g2 P2 vs H2 hk2 ag2 s2 ar r2=>?_⟩;obtain ⟨d,e1,e2⟩:=bind_some' hk2;refine hp g2 H2 _ (v0::vs) d Q r2.zd (by unfold RA;exact ⟨v0,vs,0,nop,rfl,by decide,rz.held s2 r1.fpOk fun _ z=>z.elim,ar.ra r2⟩) e1 fun v H3 nw=>?_
    obtain ⟨Pw,s3,h1,r3,n3⟩:=AV.go (s'.trans s2) r2 nw;exact q d m2 g2 P2 Pw v H3 e2 (ag.trans ag2) s3 h1 r3 n3
def evOr (f g:Ev Dv):Ev Dv:=fun R m k=>(f R m k).or (g R m k)
theorem XH {K:W.Frag} {Γ Γ':Gm} {js:List Nat} {σ:St} {H:Hp} {o:Nat} {f g:Ev Dv} {Q:VK} (h:tE K Γ o Γ' js (evOr f g) σ H Q):tE K Γ o Γ' js f σ H Q\/tE K Γ o Γ' js g σ H Q:=by
 obtain ⟨g0,m,P,r,R,k,res,e,q⟩:=h;unfold evOr at e;cases e1:f R m k with
 | some z=>rw [e1] at e;exact .inl ⟨g0,m,P,r,R,k,z,e1,by cases e;exact q⟩
 | none=>rw [e1] at e;exact .inr ⟨g0,m,P,r,R,k,res,e,q⟩
def Gx (X:Cx):Prop:=X.calm=true/\∃ j,Room j X.A
noncomputable def two {α:Type} (f:Dv->Dv->Option α) (ds:List Dv):Option α:=match ds with | [a,b]=>f a b | _=>none
noncomputable def one {α:Type} (f:Dv->Option α) (ds:List Dv):Option α:=match ds with | [a]=>f a | _=>none
noncomputable def Ax:Expr->Bool
 | .Starred _ _=>false
 | _=>true
structure BinE where
 op:Operator
 f:Dv->Dv->Option Dv
 ok:∀ X,Gx X->∃ r,Bx X (binaryOp op) r/\AH X.K (two f) 1 (Iz r)
structure CmpE where
 op:CmpOp
 f:Dv->Dv->Option Bool
 ok:∀ X,Gx X->∃ r,Bx X (compareOp op) r/\AH X.K (fun ds=>(two f ds).map .bl) 0 (Iz r)
structure CallE where
 x:Str
 n:Nat
 o:Nat
 f:List Dv->Option Dv
 ok:∀ X,Gx X->∃ r,AH X.K f o r/\((∃ id,BE X (.builtin id) r/\bootBuiltins x=some (.builtin id))\/∃ T,BE X (.type T) r/\bootBuiltins x=some (.type T))
abbrev gF (T:String):Prop:=T = "list" \/ T = "str" \/ T = "int" \/ T = "dict"
structure MethE where
 x:Str
 n:Nat
 T:String
 o:Nat
 f:List Dv->Option Dv
 hT:gF T\/T = "tuple" /\ n=1
 ok:∀ X,Gx X->∃ id r,PlainAttrs T/\Slot T x id/\typeOf (.builtin id)=pure (.type "method_descriptor")/\Zv X id r/\AH X.K f o (Zw r)
structure MutE where
 x:Str
 n:Nat
 T:String
 p:Mu
 hT:gF T
 ok:∀ X,Gx X->∃ id r,PlainAttrs T/\Slot T x id/\typeOf (.builtin id)=pure (.type "method_descriptor")/\Zv X id r/\Sm X.K p r
noncomputable def Jq:Expr->Bool
 | .Tuple _ _ _=>true
 | _=>false
structure SrcE where
 x:Str
 n:Nat
 tt:Bool
 f:List Dv->Option (List Dv)
 ok:∀ X,Gx X->∃ r,Vt X.K f r/\∀ tg es p pos ta,(tt=true->Jq tg=true)->es.length=n->es.all Ax=true->Gl X x->X.mg x=none->PA X es ta->PI X tg (.Call (.Name x p) es [] pos) (Wb r ta)
def gS:Og:=fun vs H1 Q=>JG (fun _ H R=>R vs H) [] H1 Q
def gC (K:W.Frag):R2:=fun x y H2 Q=>∃ a xs b,x=.ref a/\y=.int (-1)/\gM K H2 a xs b/\∀ p,H2 p=none->Q (.ref p) (upd H2 p (bif b then .tup xs.reverse else .lst xs.reverse))
def gR (K:W.Frag):V->Hp->VK->Prop:=fun v H1 Q=>∃ a xs,v=.ref a/\CP K H1 a xs/\∀ l,H1 l=none->Q (.ref l) (upd H1 l (.lst xs.reverse))
structure Tb where
 bins:List BinE
 cmps:List CmpE
 calls:List CallE
 meths:List MethE
 muts:List MutE
 srcs:List SrcE
 ix:Dv->Dv->Option Dv
 ixok:∀ X,Gx X->∃ r,Oh X r/\AH X.K (two ix) 0 (Iz r)
 sl:Dv->Option Int->Option Int->Option Dv
 slok:∀ X,Gx X->∃ r,Oo X r/\∀ lo hi,AH X.K (one fun d=>sl d lo hi) 1 (dW fun x H Q=>r x lo hi H Q)
 tru:Dv->Option Bool
 trok:∀ K g H o d v P b,Rep K g H o d v P->tru d=some b->Sl K v H b
 lr:List Dv->Option Dv
 lrok:∀ X,Gx X->AH X.K lr 1 gS
 rv:Dv->Dv->Option Dv
 rvok:∀ X,Gx X->AH X.K (two rv) 1 (Iz (gC X.K))
 lv:Dv->Option Dv
 lvok:∀ X,Gx X->AH X.K (one lv) 1 (dW (gR X.K))
 st:Dv->Dv->Dv->Option Dv
 stok:∀ X,Gx X->∃ T,Iy X T/\Zu X.K st T
structure Cf:Type 1 where
 N:List Str
 sc:Scope
 fn:Str->Bool
 fs:List (Str×Sig)
 cs:List (Str×Dv)
 bl:List Str
 T:Tb
 F:Fr
structure Cok (C:Cf) (X:Cx):Prop where
 N:X.N=C.N
 sc:X.env.scope=C.sc
 nd:X.N.Nodup
 calm:X.calm=true
 fn:∀ x,C.fn x=true->X.fn x=true
 room:Gx X
 fs:∀ x s,(x,s)∈C.fs->s.io.Nodup/\(∀ i∈s.io,i < s.ps.length)/\∃ j k,j<=k/\Room k X.A/\Fx X.prog X.w X.K X.mg X.base j x s.ps (NJ X.K s)
 cs:∀ x d,(x,d)∈C.cs->∃ v u,X.mg x=some u/\RelV v u/\∀ g H,Rep X.K g H 0 d v nop
 bl:∀ x∈C.bl,X.mg x=none
 xe:X.xe=fun _ _=>False
noncomputable def CU:List Str->Str->Option Nat
 | [],_=>none
 | y::r,x=>if y == x then some 0 else (CU r x).map (·+1)
theorem BW:∀ {N:List Str} {x:Str} {i:Nat},CU N x=some i->N[i]?=some x
 | [],_,_,h=>by cases h
 | y::r,x,i,h=>by
  unfold CU at h;split at h
  ·rename_i e;cases h;rw [beq_iff_eq.mp e];rfl
  ·cases q:CU r x with
   | none=>rw [q] at h;cases h
   | some j=>rw [q] at h;cases h;simpa using BW q
noncomputable def Qt (sc:Scope) (x:Str):Bool:=match sc.names.lookup x with
 | some .local=>true
 | some .cell=>true
 | some .free=>true
 | _=>false
noncomputable def Ic (sc:Scope) (x:Str):Bool:=match sc.names.lookup x with
 | some .globalImplicit=>true
 | _=>false
noncomputable def Qe (x:Str):Bool:=!(x == ("__debug__" : Str)) && !(x == ("__classdict__" : Str)) && !(x == ("__name__" : Str))
def lv (C:Cf) (x:Str):Option Nat:=if Qt C.sc x && Qe x then CU C.N x else none
def Uc (C:Cf) (e:Expr):Option Nat:=match e with
 | .Name x _=>lv C x
 | _=>none
theorem Bu {x:Str} (h:Qe x=true):(x == ("__debug__" : Str))=false/\(x == ("__classdict__" : Str))=false/\x ≠ "__name__" := by
 unfold Qe at h;simp only [Bool.and_eq_true,Bool.not_eq_true'] at h;exact ⟨h.1.1,h.1.2,fun z=>by rw [z] at h;simp at h⟩
theorem Nu {sc:Scope} {x:Str} (h:Qt sc x=true):aG sc x:=by
 unfold Qt at h;unfold aG;split at h
 ·rename_i e;exact .inl e
 ·rename_i e;exact .inr (.inl e)
 ·rename_i e;exact .inr (.inr e)
 ·cases h
theorem Bj {X:Cx} {C:Cf} (ok:Cok C X) {x:Str} (h:Ic C.sc x=true):Gl X x:=by
 unfold Ic at h;unfold Gl Env.kindOf;rw [ok.sc];split at h
 ·rename_i e;exact e
 ·cases h
theorem WX {X:Cx} {C:Cf} (ok:Cok C X) {x:Str} {i:Nat} {pos:Pos} (h:lv C x=some i):PE X (.Name x pos) (Fm i):=by
 unfold lv at h;split at h
 ·rename_i e;rw [Bool.and_eq_true] at e;have n:=Bu e.2;exact QS (by rw [ok.N];exact BW h) (by rw [ok.sc];exact Nu e.1) n.1 n.2.1
 ·cases h
theorem Cs {X:Cx} {C:Cf} (ok:Cok C X) {e:Expr} {i:Nat} (h:Uc C e=some i):PE X e (Fm i):=by
 cases e with
 | Name x pos=>exact WX ok h
 | _=>cases h
structure CE:Type 1 where
 o:Nat
 Γ:Gm
 js:List Nat
 f:Ev Dv
structure CT:Type 1 where
 Γ:Gm
 js:List Nat
 f:Ev Bool
structure CA:Type 1 where
 as:List Ar
 Γ:Gm
 js:List Nat
structure CI:Type 1 where
 Γ:Gm
 js:List Nat
 f:Ev (List Dv)
structure CS:Type 1 where
 Γ:Option Gm
 js:List Nat
 f:Es
 er:Bool
 eb:Bool
 ec:Bool
structure Rec:Type 1 where
 E:Cf->Gm->Expr->Option CE
 A:Cf->Gm->List Bool->List Expr->Option CA
 T:Cf->Gm->Expr->Option CT
 I:Cf->Gm->Bool->Expr->Option CI
 S:Cf->Option Gm->Gm->Stmt->Option CS
 Ss:Cf->Option Gm->Gm->List Stmt->Option CS
abbrev PJ (t:TA) (te:TE):TA:=fun σ H Q=>t σ H fun vs H1=>te σ H1 fun x H2=>Q (vs++[x]) H2
structure OkR (r:Rec):Prop where
 E:∀ {C X Γ e c},Cok C X->r.E C Γ e=some c->PE X e (tE X.K Γ c.o c.Γ c.js c.f)
 A:∀ {C X Γ md es c},Cok C X->r.A C Γ md es=some c->PA X es (BM X.K c.as)/\AD Γ c.as c.Γ c.js/\c.as.length=es.length/\es.all Ax=true/\(md=[]->evd c.as=true)
 T:∀ {C X Γ e c},Cok C X->r.T C Γ e=some c->PT X e (tT X.K Γ c.Γ c.js c.f)
 I:∀ {C X Γ e c} (tg),Cok C X->r.I C Γ (Jq tg) e=some c->PI X tg e (tI X.K Γ c.Γ c.js c.f)
 S:∀ {C X Γl Γ s c},Cok C X->r.S C Γl Γ s=some c->PS X s (tS X.K C.F Γl Γ c.Γ c.js c.f)
 Ss:∀ {C X Γl Γ s c},Cok C X->r.Ss C Γl Γ s=some c->Ce X s (tS X.K C.F Γl Γ c.Γ c.js c.f)
 B:∀ {C X Γ md es c},Cok C X->r.A C Γ md es=some c->∀ {e te},PE X e te->Ax e=true->PA X (es++[e]) (PJ (BM X.K c.as) te)
def aA (Γ:Gm) (i:Nat):Bool:=match Γ.getD i none with
 | some o=>decide (o<=1)
 | none=>false
theorem GV {Γ:Gm} {i:Nat} (h:aA Γ i=true):∃ o,o<=1/\Γ[i]?=some (some o):=by
 unfold aA at h;split at h
 ·rename_i o e;exact ⟨o,of_decide_eq_true h,BQ e⟩
 ·cases h
def JH (r:Rec) (C:Cf) (Γ:Gm) (md:List Bool) (es:List Expr):Option CA:=match es with
  | []=>some ⟨[],Γ,[]⟩
  | e::es=>if Ax e then
      match (if md.headD false then Uc C e else none) with
      | some i=>if (Γ.getD i none).isSome then (r.A C Γ md.tail es).bind fun c=>if aA c.Γ i then some ⟨.rf i::c.as,c.Γ,c.js⟩ else none else none
      | none=>(r.E C Γ e).bind fun c1=>(r.A C c1.Γ md.tail es).bind fun c=>some ⟨.ev Γ c1.Γ c1.js c1.f::c.as,c.Γ,c1.js++c.js⟩
    else none
theorem AI {e:Expr} {es:List Expr} {env:Env} (h:Ax e=true):starEach (e::es) env=(false,eval e env)::starEach es env:=by
 cases e<;>first | rfl | (cases h)
theorem getD_some {Γ:Gm} {i:Nat} (h:(Γ.getD i none).isSome=true):∃ o,Γ[i]?=some (some o):=by
 obtain ⟨o,e⟩:=Option.isSome_iff_exists.mp h;exact ⟨o,BQ e⟩
theorem NH {r:Rec} (R:OkR r) {C:Cf} {X:Cx} {Γ:Gm} {md:List Bool} {es:List Expr} {c:CA} (ok:Cok C X) (h:JH r C Γ md es=some c) {e0:Expr} {te:TE} (h0:PE X e0 te) (hn0:Ax e0=true):PA X (es++[e0]) (PJ (BM X.K c.as) te):=by
  cases es with
  | nil=>cases h;exact EH h0 Qa (AI hn0)
  | cons e es =>
    unfold JH at h;simp only at h;split at h
    · rename_i hs;have hst:=AI (es:=es++[e0]) (env:=X.env) hs;split at h
      · rename_i i hi;have hmd:md.headD false=true:=by
          cases q:md.headD false with
          | true=>rfl
          | false=>rw [q] at hi;cases hi
        rw [hmd] at hi;split at h
        · obtain ⟨c2,e2,h⟩:=bind_some' h;split at h
          · cases h;exact EH (Cs ok hi) (R.B ok e2 h0 hn0) hst
          · cases h
        · cases h
      · obtain ⟨c1,e1,h⟩:=bind_some' h;obtain ⟨c2,e2,h⟩:=bind_some' h;cases h;exact EH (Cd (R.E ok e1)) (R.B ok e2 h0 hn0) hst
    · cases h
theorem Pe {r:Rec} (R:OkR r) {C:Cf} {X:Cx} {Γ:Gm} {md:List Bool} {es:List Expr} {c:CA} (ok:Cok C X) (h:JH r C Γ md es=some c):PA X es (BM X.K c.as)/\AD Γ c.as c.Γ c.js/\c.as.length=es.length/\es.all Ax=true/\(md=[]->evd c.as=true):=by
  cases es with
  | nil=>cases h;exact ⟨Qa,by unfold AD;exact ⟨rfl,rfl⟩,rfl,rfl,fun _=>rfl⟩
  | cons e es =>
    unfold JH at h;simp only at h;split at h
    · rename_i hs;have hst:=AI (es:=es) (env:=X.env) hs;split at h
      · rename_i i hi;have hmd:md.headD false=true:=by
          cases q:md.headD false with
          | true=>rfl
          | false=>rw [q] at hi;cases hi
        rw [hmd] at hi;split at h
        · rename_i h1;obtain ⟨c2,e2,h⟩:=bind_some' h;split at h
          · rename_i h2;cases h;obtain ⟨a1,a2,a3,a4,a5⟩:=R.A ok e2;refine ⟨EH (Cs ok hi) a1 hst,?_,by simp [a3],by simp [hs,a4],fun z=>by rw [z] at hmd;cases hmd⟩;unfold AD;exact ⟨getD_some h1,GV h2,a2⟩
          · cases h
        · cases h
      · obtain ⟨c1,e1,h⟩:=bind_some' h;obtain ⟨c2,e2,h⟩:=bind_some' h;cases h;obtain ⟨a1,a2,a3,a4,a5⟩:=R.A ok e2;refine ⟨EH (Cd (R.E ok e1)) a1 hst,?_,by simp [a3],by simp [hs,a4],fun z=>?_⟩
        · unfold AD;exact ⟨rfl,_,rfl,a2⟩
        · show evd c2.as=true;exact a5 (by rw [z];rfl)
    · cases h
def SD (Γ:Gm):Const->Option CE
 | .int i=>some ⟨1,Γ,[],Jw (.int i)⟩
 | .bool b=>some ⟨1,Γ,[],Jw (.bl b)⟩
 | .none=>some ⟨1,Γ,[],Jw .non⟩
 | .str x=>some ⟨1,Γ,[],Jw (.str x.cps.toList)⟩
 | _=>none
theorem XE (x:Str):tx x.cps.toList=x:=by
 unfold tx;cases x;rfl
theorem OV {X:Cx} {Γ:Gm} {k:Const} {c:CE} {j:Nat} {pos:Pos} (h:SD Γ k=some c):PE X (.Constant k j pos) (tE X.K Γ c.o c.Γ c.js c.f):=by
 cases k with
 | int i=>cases h;exact Zz YL fun _ _=>BK
 | bool b=>cases h;exact Zz ba fun _ _=>Bt
 | none=>cases h;exact Zz YJ fun _ _=>Ew
 | str x=>cases h;exact Zz YG fun _ _=>by unfold Rep;exact ⟨by rw [XE],fun _ z=>z⟩
 | _=>cases h
noncomputable def TB (x:Str):Option String:=if x == ("int" : Str) then some "int" else if x == ("bool" : Str) then some "bool" else if x == ("str" : Str) then some "str" else if x == ("tuple" : Str) then some "tuple" else if x == ("list" : Str) then some "list" else none
theorem Mz {x:Str} {T:String} (h:TB x=some T):bootBuiltins x=some (.type T):=by
 unfold TB at h
 repeat' split at h
 all_goals first | (rename_i e;rw [beq_iff_eq.mp e];cases h;first | exact PyProof.Rows.Boot.«int» | exact PyProof.Rows.Boot.«bool» | exact PyProof.Rows.Boot.«str» | exact PyProof.Rows.Boot.«tuple» | exact PyProof.Rows.Boot.«list») | cases h
def SB (C:Cf) (Γ:Gm) (x:Str):Option CE:=match lv C x with
  | some i=>if (Γ.getD i none).isSome then some ⟨0,Γ.set i (some 0),[],Mf i⟩ else none
  | none=>if Ic C.sc x && Qe x then (match C.cs.find? fun p=>p.1 == x with
      | some p=>some ⟨0,Γ,[],Jw p.2⟩
      | none=>if C.bl.contains x then (TB x).map fun T=>⟨0,Γ,[],Jw (.ty T)⟩ else none) else none
theorem SA {C:Cf} {X:Cx} {Γ:Gm} {x:Str} {c:CE} {pos:Pos} (ok:Cok C X) (h:SB C Γ x=some c):PE X (.Name x pos) (tE X.K Γ c.o c.Γ c.js c.f):=by
 unfold SB at h;split at h
 ·rename_i i hi;split at h
  ·rename_i h1;cases h;obtain ⟨o,ho⟩:=getD_some h1;exact az (WX ok hi) ho
  ·cases h
 ·split at h
  ·rename_i hg;rw [Bool.and_eq_true] at hg;cases q:C.cs.find? fun p=>p.1 == x with
   | none =>
    rw [q] at h;simp only at h;split at h
    ·rename_i hb;cases t:TB x with
     | none=>rw [t] at h;cases h
     | some T =>
      rw [t] at h;cases h;exact Zz (UL (v:=.ty T) (Bj ok hg.1) (ok.bl x (List.contains_iff_mem.mp hb)) (Mz t) rfl (Bu hg.2).2.2 (Bu hg.2).1) fun _ _=>by unfold Rep;exact ⟨rfl,fun _ z=>z⟩
    ·cases h
   | some p =>
    rw [q] at h;cases h;have e:p.1=x:=beq_iff_eq.mp (by simpa using List.find?_some q);obtain ⟨v,u,h1,h3,h2⟩:=ok.cs p.1 p.2 (List.mem_of_find?_eq_some q);rw [e] at h1;exact Zz (UI (Bj ok hg.1) h1 h3 (Bu hg.2).1) h2
  ·cases h
structure C1:Type 1 where
 a:Ar
 Γ:Gm
 js:List Nat
def Cz (r:Rec) (C:Cf) (Γ:Gm) (m:Bool) (e:Expr):Option C1:=match (if m then Uc C e else none) with
 | some i=>if (Γ.getD i none).isSome then some ⟨.rf i,Γ,[]⟩ else none
 | none=>(r.E C Γ e).bind fun c=>some ⟨.ev Γ c.Γ c.js c.f,c.Γ,c.js⟩
def Cb (a:Ar) (Γ:Gm):Bool:=match a with
 | .rf i=>aA Γ i
 | _=>true
theorem BR {r:Rec} (R:OkR r) {C:Cf} {X:Cx} {Γ:Gm} {m:Bool} {e:Expr} {c:C1} (ok:Cok C X) (h:Cz r C Γ m e=some c):PE X e (Gr X.K c.a)/\(m=false->evd [c.a]=true)/\∀ {as Γ' js},AD c.Γ as Γ' js->Cb c.a Γ'=true->AD Γ (c.a::as) Γ' (c.js++js):=by
 unfold Cz at h;split at h
 ·rename_i i hi;split at h
  ·rename_i h1;cases h;have hm:m=true:=by cases m with | true=>rfl | false=>cases hi
   subst hm;refine ⟨Cs ok hi,(fun z=>by cases z),fun ch hs=>?_⟩;unfold AD;exact ⟨getD_some h1,GV hs,ch⟩
  ·cases h
 ·obtain ⟨c1,e1,h⟩:=bind_some' h;cases h;refine ⟨Cd (R.E ok e1),fun _=>rfl,fun ch hs=>?_⟩;unfold AD;exact ⟨rfl,_,rfl,ch⟩
theorem BA {Γ:Gm}:AD Γ [] Γ []:=by unfold AD;exact ⟨rfl,rfl⟩
def IA (r:Rec) (C:Cf) (Γ:Gm) (a b:Expr):Option (C1×C1):=(Cz r C Γ true a).bind fun x=>(Cz r C x.Γ true b).bind fun y=>if Cb x.a y.Γ && Cb y.a y.Γ then some (x,y) else none
noncomputable def jj (p:C1×C1):List Nat:=p.1.js++(p.2.js++[])
theorem ET {r:Rec} (R:OkR r) {C:Cf} {X:Cx} {Γ:Gm} {a b:Expr} {p:C1×C1} (ok:Cok C X) (h:IA r C Γ a b=some p):PE X a (Gr X.K p.1.a)/\PE X b (Gr X.K p.2.a)/\AD Γ [p.1.a,p.2.a] p.2.Γ (jj p):=by
 unfold IA at h;obtain ⟨x,e1,h⟩:=bind_some' h;obtain ⟨y,e2,h⟩:=bind_some' h;split at h
 ·rename_i z;rw [Bool.and_eq_true] at z;cases h;obtain ⟨a1,_,a2⟩:=BR R ok e1;obtain ⟨b1,_,b2⟩:=BR R ok e2;exact ⟨a1,b1,a2 (b2 BA z.2) z.1⟩
 ·cases h
def Od (r:Rec) (C:Cf) (Γ:Gm) (a:Expr):Option C1:=(Cz r C Γ true a).bind fun x=>if Cb x.a x.Γ then some x else none
theorem Ff {r:Rec} (R:OkR r) {C:Cf} {X:Cx} {Γ:Gm} {a:Expr} {x:C1} (ok:Cok C X) (h:Od r C Γ a=some x):PE X a (Gr X.K x.a)/\AD Γ [x.a] x.Γ (x.js++[]):=by
 unfold Od at h;obtain ⟨y,e1,h⟩:=bind_some' h;split at h
 ·rename_i z;cases h;obtain ⟨a1,_,a2⟩:=BR R ok e1;exact ⟨a1,a2 BA z⟩
 ·cases h
theorem Cok.gx {C:Cf} {X:Cx} (ok:Cok C X):Gx X:=ok.room
def dF (r:Rec) (C:Cf) (Γ:Gm) (a:Expr) (op:Operator) (b:Expr):Option CE:=(C.T.bins.find? fun e=>e.op == op).bind fun en=>(IA r C Γ a b).bind fun p=>some ⟨1,p.2.Γ,jj p,Cy (two en.f) (AM [p.1.a,p.2.a])⟩
theorem Vj {r:Rec} (R:OkR r) {C:Cf} {X:Cx} {Γ:Gm} {a b:Expr} {op:Operator} {pos:Pos} {c:CE} (ok:Cok C X) (h:dF r C Γ a op b=some c):PE X (.BinOp a op b pos) (tE X.K Γ c.o c.Γ c.js c.f):=by
 obtain ⟨en,e1,h⟩:=bind_some' h;obtain ⟨p,e2,h⟩:=bind_some' h;cases h;have eo:en.op=op:=by simpa using List.find?_some e1
 obtain ⟨h1,h2,h3⟩:=ET R ok e2;obtain ⟨rr,q1,q2⟩:=en.ok X ok.gx;rw [eo] at q1;exact PE.imp (bX q1 h1 h2) fun _ _ _ h=>Be q2 h3 h
noncomputable def DW (x:Dv):Option Dv:=match x with | .int i=>some (.int (-i)) | _=>none
theorem Xv {K:W.Frag}:AH K (one DW) 1 (dW (rU fun i=>.int (-i))):=fun g H ds vs d Q zd ra e k=>by
 unfold one at e;split at e
 ·rename_i a;unfold DW at e;split at e
  ·rename_i i;cases e;unfold RA at ra;obtain ⟨v,r,o,P,rfl,_,h1,h2⟩:=ra;unfold RA at h2;subst h2;rw [rep_int h1];exact ⟨i,rfl,k _ H (AV.old BK)⟩
  ·cases e
 ·cases e
def cy (r:Rec) (C:Cf) (Γ:Gm) (a:Expr):Option CE:=(Od r C Γ a).bind fun x=>some ⟨1,x.Γ,x.js++[],Cy (one DW) (AM [x.a])⟩
theorem Va {r:Rec} (R:OkR r) {C:Cf} {X:Cx} {Γ:Gm} {a:Expr} {pos:Pos} {c:CE} (ok:Cok C X) (h:cy r C Γ a=some c):PE X (.UnaryOp .USub a pos) (tE X.K Γ c.o c.Γ c.js c.f):=by
 obtain ⟨x,e1,h⟩:=bind_some' h;cases h;obtain ⟨h1,h2⟩:=Ff R ok e1;exact PE.imp (bV XB h1) fun _ _ _ h=>Be Xv h2 h
def gK (t:CT):CE:=⟨1,t.Γ,t.js,LW t.f⟩
def SE (r:Rec) (C:Cf) (Γ:Gm) (a:Expr) (op:CmpOp) (b:Expr):Option CT:=if behindInMarks op b then none else (C.T.cmps.find? fun e=>e.op == op).bind fun en=>(IA r C Γ a b).bind fun p=>some ⟨p.2.Γ,jj p,Wm (two en.f) (AM [p.1.a,p.2.a])⟩
theorem Zj {K:W.Frag} {Γ Γ':Gm} {js:List Nat} {σ:St} {H:Hp} {o:Nat} {p:List Dv->Option Bool} {as:List Ar} {r:Og} (hp:AH K (fun ds=>(p ds).map .bl) 0 r) (c:AD Γ as Γ' js) {Q:VK} (h:tE K Γ o Γ' js (LW (Wm p (AM as))) σ H Q):BM K as σ H fun vs H1=>r vs H1 Q:=by
 obtain ⟨g,m,P,rl,R',k,res,e,q⟩:=h;refine AJ as rl c e fun ds m' g' P' vs H1 hk ag s ar r1=>?_
 obtain ⟨b,e1,e2⟩:=bind_some' hk;refine hp g' H1 ds vs (.bl b) _ r1.zd (ar.ra r1) (by show (p ds).map _=_;rw [e1];rfl) fun v H2 nw=>?_
 obtain ⟨Pv,s2,h1,r2,n2⟩:=AV.go s r1 nw;have ev:=rep_bl h1;subst ev;exact q (.bl b) m' g' P' nop _ H2 e2 ag (s2.less fun _ z=>z.elim .inl False.elim) Bt r2 fun _ _ z=>z
theorem Mq {r:Rec} (R:OkR r) {C:Cf} {X:Cx} {Γ:Gm} {a b:Expr} {op:CmpOp} {pos:Pos} {c:CT} (ok:Cok C X) (h:SE r C Γ a op b=some c):PT X (.Compare a [op] [b] pos) (tT X.K Γ c.Γ c.js c.f)/\∀ o,PE X (.Compare a [op] [b] pos) (tE X.K Γ o c.Γ c.js (LW c.f)):=by
 unfold SE at h;split at h
 ·cases h
 ·rename_i hm;rw [Bool.not_eq_true] at hm;obtain ⟨en,e1,h⟩:=bind_some' h;obtain ⟨p,e2,h⟩:=bind_some' h;cases h;have eo:en.op=op:=by simpa using List.find?_some e1
  obtain ⟨h1,h2,h3⟩:=ET R ok e2;obtain ⟨rr,q1,q2⟩:=en.ok X ok.gx;rw [eo] at q1;exact ⟨PT.imp (To q1 h1 h2 hm) fun _ _ _ h=>dM q2 h3 h,fun o=>PE.imp (UJ q1 h1 h2 hm) fun _ _ _ h=>Zj q2 h3 h⟩
noncomputable def GR:Expr->Bool
 | .Slice _ _ _ _=>false
 | _=>true
theorem QO {b:Expr} (h:GR b=true):Mx b:=fun o i=>by
 cases b<;>first | rfl | (cases h)
def fL (r:Rec) (C:Cf) (Γ:Gm) (a b:Expr):Option CE:=(IA r C Γ a b).bind fun p=>some ⟨0,p.2.Γ,jj p,Cy (two C.T.ix) (AM [p.1.a,p.2.a])⟩
theorem Zb {r:Rec} (R:OkR r) {C:Cf} {X:Cx} {Γ:Gm} {a b:Expr} {pos:Pos} {c:CE} (ok:Cok C X) (hb:GR b=true) (h:fL r C Γ a b=some c):PE X (.Subscript a b pos) (tE X.K Γ c.o c.Γ c.js c.f):=by
 obtain ⟨p,e2,h⟩:=bind_some' h;cases h;obtain ⟨h1,h2,h3⟩:=ET R ok e2;obtain ⟨rr,q1,q2⟩:=C.T.ixok X ok.gx;exact PE.imp (bY q1 h1 h2 (QO hb)) fun _ _ _ h=>Be q2 h3 h
noncomputable def aF {R:Type} (d:Dv) (k:Int->Option R):Option R:=match d with | .int i=>k i | _=>none
def Zn (o:Option (Ev Dv)):Ev (Option Int):=match o with
 | none=>fun _ m k=>k none m
 | some f=>fun R m k=>f R m fun d m1=>aF d fun i=>k (some i) m1
def cW (p:Dv->Option Int->Option Int->Option Dv) (a:Ar) (lo hi:Option (Ev Dv)):Ev Dv:=match a with
 | .rf i=>fun R m k=>Zn lo R m fun l m1=>Zn hi R m1 fun u m2=>(p (m2.at i) l u).bind fun d=>k d m2
 | .ev _ _ _ f=>fun R m k=>f R m fun x m1=>Zn lo R m1 fun l m2=>Zn hi R m2 fun u m3=>(p x l u).bind fun d=>k d m3
def fN (r:Rec) (C:Cf) (Γ:Gm) (o:Option Expr):Option (Option (Ev Dv)×Gm×List Nat):=match o with
 | none=>some (none,Γ,[])
 | some e=>(r.E C Γ e).bind fun c=>some (some c.f,c.Γ,c.js)
def WE (K:W.Frag) (Γ Γ':Gm) (js:List Nat) (f:Ev (Option Int)):TO:=fun σ H Q=>∃ g m P,Rel K g H Γ m σ P/\∃ (R:Type) (k:Option Int->M->Option R) (r:R),f R m k=some r /\
 ∀ b m' g' P' H',k b m'=some r->BU js m m'->Step g P H g' P' H'->Rel K g' H' Γ' m' σ P'->Q b H'
theorem PO.imp {X:Cx} {e:Option Expr} {t t':TO} (h:PO X e t) (k:∀ σ H Q,t' σ H Q->t σ H Q):PO X e t':=fun pins s σ H Q I q=>h pins s σ H Q I (k σ H Q q)
theorem SH {r:Rec} (R:OkR r) {C:Cf} {X:Cx} {Γ:Gm} {e:Option Expr} {p:Option (Ev Dv)×Gm×List Nat} (ok:Cok C X) (h:fN r C Γ e=some p):PO X e (WE X.K Γ p.2.1 p.2.2 (Zn p.1)):=by
 cases e with
 | none =>
  cases h;exact PO.imp UD fun σ H Q q=>by
   obtain ⟨g,m,P,r,R,k,res,e,q⟩:=q;exact q none m g P H e BU.refl Step.refl r
 | some e =>
  obtain ⟨c,e1,h⟩:=bind_some' h;cases h;exact PO.imp (UC (Cd (R.E ok e1))) fun σ H Q q=>by
   obtain ⟨g,m,P,r,R,k,res,e,q⟩:=q;refine ⟨g,m,P,r,R,_,res,e,fun d m' g' P' Pv v H' hk ag s rv r1 n=>?_⟩;cases d<;>first | (cases hk;done) | skip
   rename_i i;exact ⟨i,rep_int rv,q (some i) m' g' P' H' hk ag (s.less fun _ z=>.inl z) r1⟩
def gH (r:Rec) (C:Cf) (Γ:Gm) (a:Expr) (lo hi:Option Expr):Option CE:=(Cz r C Γ true a).bind fun x=>(fN r C x.Γ lo).bind fun l=>(fN r C l.2.1 hi).bind fun u=>if Cb x.a u.2.1 then some ⟨1,u.2.1,x.js++(l.2.2++u.2.2),cW C.T.sl x.a l.1 u.1⟩ else none
theorem XT {K:W.Frag} {Γ Γ1 Γ2 Γ':Gm} {j1 j2 j3:List Nat} {p:Dv->Option Int->Option Int->Option Dv} {rr:V->Option Int->Option Int->Hp->VK->Prop} (hp:∀ lo hi,AH K (one fun d=>p d lo hi) 1 (dW fun x H Q=>rr x lo hi H Q)) {a:Ar} {lo hi:Option (Ev Dv)}
    (ha:∀ {as Γ' js},AD Γ1 as Γ' js->Cb a Γ'=true->AD Γ (a::as) Γ' (j1++js)) (hs:Cb a Γ'=true) {σ:St} {H:Hp} {Q:VK}
    (h:tE K Γ 1 Γ' (j1++(j2++j3)) (cW p a lo hi) σ H Q):fu rr (Gr K a) (WE K Γ1 Γ2 j2 (Zn lo)) (WE K Γ2 Γ' j3 (Zn hi)) σ H Q:=by
  obtain ⟨g,m,P,r,R,k,res,e,q⟩:=h;have fin:∀ {x:Dv} {l u:Option Int} {m3:M} {g3:G} {P3:Fp} {H3:Hp} {v:V} {o:Nat} {Px:Fp},(p x l u).bind (fun d=>k d m3)=some res->BU (j1++(j2++j3)) m m3->Step g P H g3 P3 H3->Rel K g3 H3 Γ' m3 σ P3->o<=1->Rep K g3 H3 o x v Px->rr v l u H3 Q:=fun {x l u m3 g3 P3 H3 v o Px} hk ag s r3 hlo rx=>by
    obtain ⟨d,e1,e2⟩:=bind_some' hk;refine hp l u g3 H3 [x] [v] d Q r3.zd (by unfold RA;exact ⟨v,[],o,Px,rfl,hlo,rx,by unfold RA;rfl⟩) e1 fun w H4 nw=>?_
    obtain ⟨Pv,s2,h1,r2,n2⟩:=AV.go s r3 nw;exact q d m3 g3 P3 Pv w H4 e2 ag s2 h1 r2 n2
  cases a with
  | rf i =>
    have c0:=ha (as:=[]) (Γ':=Γ1) (js:=[]) BA;have hs':=hs
    -- the slot is set ahead
    have h0:(∃ o,Γ[i]?=some (some o))/\Γ1=Γ/\j1=[]:=by
      have:=ha (as:=[.ev Γ1 Γ' (j2++j3) (fun _ m k=>k .non m)]) (Γ':=Γ') (js:=(j2++j3)++[]) (by unfold AD;exact ⟨rfl,[],rfl,BA⟩) hs;unfold AD at this;refine ⟨this.1,?_⟩;obtain ⟨_,_,c⟩:=this;unfold AD at c;refine ⟨c.1,?_⟩;obtain ⟨_,js2,e,c⟩:=c;unfold AD at c;rw [c.2] at e;have l:(j1++((j2++j3)++[])).length=((j2++j3)++[]).length:=congrArg List.length e;simp at l;exact l
    obtain ⟨⟨o0,h0⟩,rfl,rfl⟩:=h0;obtain ⟨v0,P0,ev0,rv0,_⟩:=r.see h0;refine ⟨v0,ev0,g,m,P,r,R,_,res,e,fun l m1 g1 P1 H1 hk1 ag1 s1 r1=>⟨g1,m1,P1,r1,R,_,res,hk1,fun u m2 g2 P2 H2 hk2 ag2 s2 r2=>?_⟩⟩;obtain ⟨o1,hl1,h1⟩:=GV hs;obtain ⟨v1,Px,ev1,rv1,_⟩:=r2.see h1;rw [ev0] at ev1;cases ev1;exact fin hk2 (ag1.trans ag2) (s1.trans s2) r2 hl1 rv1
  | ev Γa Γb ja f =>
    have h0:Γa=Γ/\Γb=Γ1/\j1=ja:=by
      have:=ha (as:=[.ev Γ1 Γ1 [] (fun _ m k=>k .non m)]) (Γ':=Γ1) (js:=[]) (by unfold AD;exact ⟨rfl,[],rfl,BA⟩) rfl;unfold AD at this;obtain ⟨e1,js2,e2,c⟩:=this;unfold AD at c;obtain ⟨e3,js3,e4,c⟩:=c;unfold AD at c;rw [c.2] at e4;subst e4;simp at e2;exact ⟨e1,e3.symm,e2⟩
    obtain ⟨rfl,rfl,rfl⟩:=h0;refine ⟨g,m,P,r,R,_,res,e,fun x m1 g1 P1 Pv v H1 hk1 ag1 s1 rv r1 n1=>⟨g1,m1,P1,r1,R,_,res,hk1,fun l m2 g2 P2 H2 hk2 ag2 s2 r2=>⟨g2,m2,P2,r2,R,_,res,hk2,fun u m3 g3 P3 H3 hk3 ag3 s3 r3=>?_⟩⟩⟩;exact fin hk3 (ag1.trans (ag2.trans ag3)) (((s1.less fun _ z=>.inl z).trans s2).trans s3) r3 (by decide:0<=1) ((rv.z.held s2 r1.fpOk fun _ z=>z.elim).held s3 r2.fpOk fun _ z=>z.elim)
theorem ZU {r:Rec} (R:OkR r) {C:Cf} {X:Cx} {Γ:Gm} {a:Expr} {lo hi:Option Expr} {p2 pos:Pos} {c:CE} (ok:Cok C X) (h:gH r C Γ a lo hi=some c):PE X (.Subscript a (.Slice lo hi none p2) pos) (tE X.K Γ c.o c.Γ c.js c.f):=by
 obtain ⟨x,e1,h⟩:=bind_some' h;obtain ⟨l,e2,h⟩:=bind_some' h;obtain ⟨u,e3,h⟩:=bind_some' h;split at h
 ·rename_i hs;cases h;obtain ⟨h1,_,h2⟩:=BR R ok e1;obtain ⟨rr,q1,q2⟩:=C.T.slok X ok.gx;exact PE.imp (QT q1 h1 (SH R ok e2) (SH R ok e3)) fun _ _ _ h=>XT q2 h2 hs h
 ·cases h
def cv (r:Rec) (C:Cf) (Γ:Gm) (es:List Expr):Option CE:=(r.A C Γ [] es).bind fun c=>some ⟨1,c.Γ,c.js,Mg .tup (AM c.as)⟩
def dC (r:Rec) (C:Cf) (Γ:Gm) (es:List Expr):Option CE:=(r.A C Γ [] es).bind fun c=>some ⟨1,c.Γ,c.js,Mg .lst (AM c.as)⟩
def RE:Ev Dv:=Jw (.dct [] [])
theorem AV.dct {K:W.Frag} {g:G} {H:Hp} {p:Addr} (zd:Zd g H) (hp:H p=none):AV K g H 1 (.dct [] []) (.ref p) (upd H p (.dK [])):=by
 have sm:=Cn hp (.dK []);refine ⟨sm,fun b=>b=p,?_,fun a q=>q▸hp⟩;unfold Rep;exact ⟨p,[],rfl,BL,(fun z=>by cases z),(fun _ z=>zd p z hp),⟨rfl,nop,Reps.nil⟩,fun b=>⟨fun z=>⟨by decide,z⟩,fun z=>z.2⟩⟩
theorem bD {X:Cx} {Γ:Gm} {pos:Pos}:PE X (.Dict [] [] pos) (tE X.K Γ 1 Γ [] RE):=PE.imp Jc fun σ H Q q=>by
 obtain ⟨g,m,P,r,R,k,res,e,q⟩:=q;intro p hp;obtain ⟨Pv,s2,h1,r2,n2⟩:=AV.go Step.refl r (AV.dct r.zd hp);exact q _ m g P Pv _ _ e BU.refl s2 h1 r2 n2
theorem VU {r:Rec} (R:OkR r) {C:Cf} {X:Cx} {Γ:Gm} {es:List Expr} {x1:Nat} {pos:Pos} {c:CE} (ok:Cok C X) (h:cv r C Γ es=some c):PE X (.Tuple es x1 pos) (tE X.K Γ c.o c.Γ c.js c.f):=by
 obtain ⟨x,e1,h⟩:=bind_some' h;cases h;obtain ⟨a1,a2,_,_,a5⟩:=R.A ok e1;exact bA a1 a2 (a5 rfl)
theorem Vc {r:Rec} (R:OkR r) {C:Cf} {X:Cx} {Γ:Gm} {es:List Expr} {pos:Pos} {c:CE} (ok:Cok C X) (h:dC r C Γ es=some c):PE X (.List es pos) (tE X.K Γ c.o c.Γ c.js c.f):=by
 obtain ⟨x,e1,h⟩:=bind_some' h;cases h;obtain ⟨a1,a2,_,_,a5⟩:=R.A ok e1;exact bC a1 a2 (a5 rfl)
def BV:Gm->Gm->Gm
 | some a::x,some b::y=>some (if a == b then a else 0)::BV x y
 | _::x,_::y=>none::BV x y
 | _,_=>[]
def cU (t:Dv->Option Bool) (fa:Ev (List Dv)):Ev Bool:=Wm (one t) fa
def ZT (r:Rec) (C:Cf) (Γ:Gm) (a:Expr):Option CT:=(Od r C Γ a).bind fun x=>some ⟨x.Γ,x.js++[],cU C.T.tru (AM [x.a])⟩
noncomputable def MZ:Expr->Bool
 | .UnaryOp .Not _ _=>false
 | .BoolOp _ _ _=>false
 | .IfExp _ _ _ _=>false
 | .Compare _ _ _ _=>false
 | _=>true
theorem VV {r:Rec} (R:OkR r) {C:Cf} {X:Cx} {Γ:Gm} {a:Expr} {c:CT} (ok:Cok C X) (hv:MZ a=true) (h:ZT r C Γ a=some c):PT X a (tT X.K Γ c.Γ c.js c.f):=by
  obtain ⟨x,e1,h⟩:=bind_some' h;cases h;obtain ⟨h1,h2⟩:=Ff R ok e1;refine PT.imp (QE h1 fun whole=>?_) fun σ H Q h=>?_
  · cases a<;>first | rfl | (cases hv;done) | skip
    rename_i op b pos;cases op<;>first | rfl | (cases hv;done)
  · obtain ⟨g,m,P,rl,R',k,res,e,q⟩:=h;have key:BM X.K [x.a] σ H fun vs H1=>∃ w,vs=[w]/\∃ b,Sl X.K w H1 b/\Q b H1:=by
      refine AJ [x.a] rl h2 e fun ds m' g' P' vs H1 hk ag s ar r1=>?_
      obtain ⟨b,e1,e2⟩:=bind_some' hk;unfold one at e1;split at e1
      · rename_i d;have ra:=ar.ra r1;unfold RA at ra;obtain ⟨w,wr,o,Po,rfl,_,h3,h4⟩:=ra;unfold RA at h4;subst h4;exact ⟨w,rfl,b,C.T.trok _ _ _ _ _ _ _ _ h3 e1,q b m' g' P' H1 e2 ag s r1⟩
      · cases e1
    revert key
    cases x.a with
    | ev Γa Γb ja fa =>
      rintro ⟨g,m,P,r,R,k,res,e,q⟩;refine ⟨g,m,P,r,R,k,res,e,fun d m' g' P' Pv v H' h1 h2 h3 h4 h5 h6=>?_⟩;obtain ⟨w,ew,z⟩:=q d m' g' P' Pv v H' h1 h2 h3 h4 h5 h6;cases ew;exact z
    | rf i =>
      rintro ⟨v,e,w,ew,z⟩;cases ew;exact ⟨v,e,z⟩
def fI (t:CT):CT:=⟨t.Γ,t.js,Wj t.f⟩
def fP (a b:CT):CT:=let Γ':=BV a.Γ b.Γ;let js:=a.js++b.js;⟨Γ',js,LU (Au Γ' js) (Ge a.f b.f fun _ m k=>k false m)⟩
def gW (a b:CT):CT:=let Γ':=BV a.Γ b.Γ;let js:=a.js++b.js;⟨Γ',js,LU (Au Γ' js) (Ge a.f (fun _ m k=>k true m) b.f)⟩
theorem bS {X:Cx} {op:BoolOp} {vs:List Expr} {pos:Pos} {t:TT} (h:PT X (.BoolOp op vs pos) t):PW X (.BoolOp op vs pos) t:=fun wh pins s σ H Q I q=>h pins s σ H Q I q
def WH (r:Rec) (C:Cf) (Γ:Gm) (op:BoolOp) (vs:List Expr) (pos:Pos):Option CT:=match vs with
 | []=>none
 | [a]=>r.T C Γ a
 | a::b::vs=>(r.T C Γ a).bind fun x=>(r.T C x.Γ (.BoolOp op (b::vs) pos)).bind fun y=>if BP (BV x.Γ y.Γ) x.Γ && BP (BV x.Γ y.Γ) y.Γ then some (match op with | .And=>fP x y | .Or=>gW x y) else none
theorem Pc {r:Rec} (R:OkR r) {C:Cf} {X:Cx} {Γ:Gm} {op:BoolOp} {vs:List Expr} {pos:Pos} {c:CT} (ok:Cok C X) (h:WH r C Γ op vs pos=some c):PT X (.BoolOp op vs pos) (tT X.K Γ c.Γ c.js c.f):=by
 match vs,h with
 | [],h=>cases h
 | [a],h =>
  cases op with
  | And=>exact PW.pt (Tn (R.T ok h))
  | Or=>exact PW.pt (Xn (R.T ok h))
 | a::b::vs,h =>
  obtain ⟨x,e1,h⟩:=bind_some' h;obtain ⟨y,e2,h⟩:=bind_some' h;split at h
  ·rename_i hw;rw [Bool.and_eq_true] at hw;have ha:=R.T ok e1;have hb:=bS (R.T ok e2);have jk:∀ (i o:Nat),(BV x.Γ y.Γ)[i]?=some (some o)->i∈Au (BV x.Γ y.Γ) (x.js++y.js)\/i∉x.js++y.js:=fun i o h=>BH h
   cases op with
   | And =>
    cases h;exact PW.pt (PW.imp (Xo ha (PW.imp hb fun _ _ _ h=>Lz hw.2 (fun _ z=>z) h)) fun σ H Q h=>PH (MX jk (fun i z=>As z) h) hw.1)
   | Or =>
    cases h;exact PW.pt (PW.imp (bR ha (PW.imp hb fun _ _ _ h=>Lz hw.2 (fun _ z=>z) h)) fun σ H Q h=>aP (MX jk (fun i z=>As z) h) hw.1)
  ·cases h
def cb (p p':List Dv->Option Bool) (a:Ar) (i:Nat) (c:Ar):Ev Bool:=Ge (Wm p (AM [a,.rf i])) (Wm p' (AM [.rf i,c])) fun R m k=>k false m
section
variable {K:W.Frag} {Γ Γ2 Γ':Gm} {js js2:List Nat} {σ:St} {H:Hp}
theorem IC {f:Ev Bool} {Q Q':Bool->Hp->Prop} (h:tT K Γ Γ' js f σ H Q) (m:∀ b H',Q b H'->Q' b H'):tT K Γ Γ' js f σ H Q':=by
 obtain ⟨g,m',P,r,R,k,res,e,q⟩:=h;exact ⟨g,m',P,r,R,k,res,e,fun b m1 g1 P1 H1 h1 h2 h3 h4=>m _ _ (q b m1 g1 P1 H1 h1 h2 h3 h4)⟩
theorem Fo {a:Ar} {Q1 Q2:VK} (h12:∀ v H,Q1 v H->Q2 v H) (t:Gr K a σ H Q1):Gr K a σ H Q2:=by
 cases a with
 | ev Γa Γb ja fa =>
  obtain ⟨g,m,P,r,R,k,res,e,q⟩:=t;exact ⟨g,m,P,r,R,k,res,e,fun d m' g' P' Pv v H' h1 h2 h3 h4 h5 h6=>h12 _ _ (q d m' g' P' Pv v H' h1 h2 h3 h4 h5 h6)⟩
 | rf i=>obtain ⟨v,e,q⟩:=t;exact ⟨v,e,h12 _ _ q⟩
theorem Wt {o:Nat} {f:Ev Bool} {Q:VK} (h:tE K Γ o Γ' js (LW f) σ H Q):tT K Γ Γ' js f σ H fun b H'=>Q (.bl b) H':=by
 obtain ⟨g,m,P,r,R,k,res,e,q⟩:=h;exact ⟨g,m,P,r,R,_,res,e,fun b m1 g1 P1 H1 hk ag s r1=>q (.bl b) m1 g1 P1 nop _ H1 hk ag (s.less fun _ z=>z.elim id False.elim) Bt r1 fun _ _ z=>z⟩
theorem SY {p:List Dv->Option Bool} {as:List Ar} {r:Og} (hp:AH K (fun ds=>(p ds).map .bl) 0 r) (c:AD Γ as Γ' js) {Q:VK} (h:tT K Γ Γ' js (Wm p (AM as)) σ H fun b H'=>Q (.bl b) H'):BM K as σ H fun vs H1=>r vs H1 Q:=by
 obtain ⟨g,m,P,rl,R',k,res,e,q⟩:=h;refine AJ as rl c e fun ds m' g' P' vs H1 hk ag s ar r1=>?_
 obtain ⟨b,e1,e2⟩:=bind_some' hk;refine hp g' H1 ds vs (.bl b) _ r1.zd (ar.ra r1) (by show (p ds).map _=_;rw [e1];rfl) fun v H2 nw=>?_
 obtain ⟨Pv,s2,h1,r2,n2⟩:=AV.go s r1 nw;rw [rep_bl h1];exact q b m' g' P' H2 e2 ag (s2.less fun _ q=>.inl q) r2
theorem Hr {p p':List Dv->Option Bool} {a c:Ar} {i o:Nat} {r r':R2} (hp:AH K (fun ds=>(p ds).map .bl) 0 (Iz r)) (hp':AH K (fun ds=>(p' ds).map .bl) 0 (Iz r')) (c1:AD Γ [a,.rf i] Γ2 js) (c2:AD Γ2 [.rf i,c] Γ' js2) (hi:Γ[i]?=some (some o)) (hw:BP Γ' Γ2=true) {Q:VK}
    (h:tT K Γ Γ' (js++js2) (cb p p' a i c) σ H fun b H'=>Q (.bl b) H'):ID r r' (Gr K a) (Fm i) (Gr K c) σ H Q:=by
  have h0:∃ v,σ[i]?=some (some v):=by
    obtain ⟨g,m,P,r,_⟩:=h;obtain ⟨v,_,e,_⟩:=r.see hi;exact ⟨v,e⟩
  obtain ⟨v,hv⟩:=h0;have h1:=PH h hw;have h2:tT K Γ Γ2 js (Wm p (AM [a,.rf i])) σ H fun b H'=>∃ k,V.bl b=V.bl k/\if k=true then Gr K c σ H' fun w' H4=>r' v w' H4 Q else Q (.bl false) H':=IC h1 fun b H' q=>⟨b,rfl,by
    cases b with
    | true =>
      rw [if_pos rfl] at q ⊢;obtain ⟨v',hv',q'⟩:=SY hp' c2 q;rw [hv] at hv';cases hv';exact q'
    | false=>rw [if_neg Bool.false_ne_true] at q ⊢;exact q⟩
  have h3:=SY (Q:=fun z H'=>∃ k,z=V.bl k/\if k=true then Gr K c σ H' fun w' H4=>r' v w' H4 Q else Q (.bl false) H') hp c1 h2;refine Fo (fun x H1 z=>?_) h3;obtain ⟨w,hw',q⟩:=z;rw [hv] at hw';cases hw';exact ⟨v,hv,q⟩
end
def Wk (p p':List Dv->Option Bool) (a b c:Ar):Ev Bool:=fun R m k=>AM [a,b] R m fun ds m1=>(p ds).bind fun t=>if t=true then AM [c] R m1 fun cs m2=>(p' (ds.getD 1 .non::cs)).bind fun u=>k u m2 else k false m1
theorem Gi {K:W.Frag} {Γ Γ2 Γ' Γa Γb:Gm} {js js2 jb:List Nat} {σ:St} {H:Hp} {p p':List Dv->Option Bool} {a c:Ar} {fb:Ev Dv} {r r':R2} (hp:AH K (fun ds=>(p ds).map .bl) 0 (Iz r)) (hp':AH K (fun ds=>(p' ds).map .bl) 0 (Iz r')) (c1:AD Γ [a,.ev Γa Γb jb fb] Γ2 js) (c2:AD Γ2 [c] Γ' js2) (hw:BP Γ' Γ2=true) {Q:VK}
    (h:tT K Γ Γ' (js++js2) (Wk p p' a (.ev Γa Γb jb fb) c) σ H fun b H'=>Q (.bl b) H'):ID r r' (Gr K a) (tE K Γa 0 Γb jb fb) (Gr K c) σ H Q:=by
  obtain ⟨g,m,P,rl,R,k,res,e,q⟩:=h;have key:BM K [a,.ev Γa Γb jb fb] σ H fun vs H1=>∃ x y,vs=[x,y]/\r x y H1 fun z H3=>∃ k,z=.bl k/\(if k=true then Gr K c σ H3 fun w' H4=>r' y w' H4 Q else Q (.bl false) H3):=by
    refine AJ _ rl c1 e fun ds m1 g1 P1 vs H1 hk ag s ar r1=>?_
    obtain ⟨t,e1,e2⟩:=bind_some' hk;have ra:=ar.ra r1
    -- the middle's value is frozen
    obtain ⟨dx,dy,x,y,rfl,rfl,ry⟩:∃ dx dy x y,ds=[dx,dy]/\vs=[x,y]/\Rep K g1 H1 0 dy y nop:=by
      cases a with
      | rf i =>
        unfold AO at ar;obtain ⟨v,ds',vs',rfl,rfl,_,_,ar⟩:=ar;unfold AO at ar;obtain ⟨d,v',ds',vs',rfl,rfl,h1,ar⟩:=ar;unfold AO at ar;obtain ⟨rfl,rfl⟩:=ar;exact ⟨_,_,_,_,rfl,rfl,h1⟩
      | ev _ _ _ _ =>
        unfold AO at ar;obtain ⟨d0,v,ds',vs',rfl,rfl,_,ar⟩:=ar;unfold AO at ar;obtain ⟨d,v',ds',vs',rfl,rfl,h1,ar⟩:=ar;unfold AO at ar;obtain ⟨rfl,rfl⟩:=ar;exact ⟨_,_,_,_,rfl,rfl,h1⟩
    refine ⟨x,y,rfl,hp g1 H1 [dx,dy] [x,y] (.bl t) _ r1.zd ra (by show (p _).map _=_;rw [e1];rfl) fun v H2 nw=>?_⟩;obtain ⟨Pv,s2,h1,r2,n2⟩:=AV.go s r1 nw;have sm:=nw.1;have ry2:Rep K g1 H2 0 dy y nop:=ry.held (Step.same (g:=g1) (P:=nop) sm) FpOk.nop fun _ z=>z.elim
    have s3:Step g P H g1 P1 H2:=s2.less fun _ z=>.inl z
    refine ⟨t,rep_bl h1,?_⟩;cases t with
    | false =>
      rw [if_neg Bool.false_ne_true] at e2 ⊢;obtain ⟨g4,P4,s4,r4⟩:=r2.weaken hw;exact q false m1 g4 P4 H2 e2 (ag.mono fun _ z=>List.mem_append_left _ z) (s3.trans s4) r4
    | true =>
      rw [if_pos rfl] at e2 ⊢;have key2:BM K [c] σ H2 fun ws H4=>∃ w,ws=[w]/\r' y w H4 Q:=by
        refine AJ _ r2 c2 e2 fun cs m2 g4 P4 ws H4 hk2 ag2 s4 ar2 r4=>?_
        obtain ⟨u,e3,e4⟩:=bind_some' hk2;have ra2:=ar2.ra r4;have al:=ar2.len
        match cs,ws,al.1,al.2,ra2,e3 with
        | [cd],[w],_,_,ra2,e3 =>
          have ry4:Rep K g4 H4 0 dy y nop:=ry2.held s4 r2.fpOk fun _ z=>z.elim
          refine ⟨w,rfl,hp' g4 H4 [dy,cd] [y,w] (.bl u) Q r4.zd (by unfold RA;exact ⟨y,[w],0,nop,rfl,by decide,ry4,ra2⟩) (by show (p' _).map _=_;rw [show p' [dy,cd]=some u from e3];rfl) fun v' H5 nw'=>?_⟩;obtain ⟨Pv',s5,h5,r5,n5⟩:=AV.go (s3.trans s4) r4 nw';rw [rep_bl h5];exact q u m2 g4 P4 H5 e4 (ag.trans ag2) (s5.less fun _ z=>.inl z) r5
      refine Fo (fun w H4 z=>?_) key2;obtain ⟨w',ew,z⟩:=z;cases ew;exact z
  refine Fo (fun x H1 z=>?_) key;obtain ⟨g,m,P,r,R,k,res,e,q⟩:=z;refine ⟨g,m,P,r,R,k,res,e,fun d m' g' P' Pv v H' h1 h2 h3 h4 h5 h6=>?_⟩;obtain ⟨x',y',ev,z⟩:=q d m' g' P' Pv v H' h1 h2 h3 h4 h5 h6;cases ev;exact z
def Zh (r:Rec) (C:Cf) (Γ:Gm) (a:Expr) (op:CmpOp) (b:Expr) (op':CmpOp) (c:Expr):Option CT:=if lastMarks [op,op'] [b,c] then none else (C.T.cmps.find? fun e=>e.op == op).bind fun en=>(C.T.cmps.find? fun e=>e.op == op').bind fun en'=>(Cz r C Γ true a).bind fun x=>(r.E C x.Γ b).bind fun y=>(Cz r C y.Γ true c).bind fun z =>
 if Cb x.a y.Γ && Cb z.a z.Γ && BP z.Γ y.Γ then some ⟨z.Γ,(x.js++(y.js++[]))++(z.js++[]),Wk (two en.f) (two en'.f) x.a (.ev x.Γ y.Γ y.js y.f) z.a⟩ else none
theorem Vh {r:Rec} (R:OkR r) {C:Cf} {X:Cx} {Γ:Gm} {a b c:Expr} {op op':CmpOp} {pos:Pos} {t:CT} (ok:Cok C X) (h:Zh r C Γ a op b op' c=some t):PT X (.Compare a [op,op'] [b,c] pos) (tT X.K Γ t.Γ t.js t.f)/\∀ o,PE X (.Compare a [op,op'] [b,c] pos) (tE X.K Γ o t.Γ t.js (LW t.f)):=by
 unfold Zh at h;split at h
 ·cases h
 ·rename_i hm;rw [Bool.not_eq_true] at hm;obtain ⟨en,e1,h⟩:=bind_some' h;obtain ⟨en',e2,h⟩:=bind_some' h;obtain ⟨x,e3,h⟩:=bind_some' h;obtain ⟨y,e5,h⟩:=bind_some' h;obtain ⟨z,e4,h⟩:=bind_some' h;split at h
  ·rename_i hw;simp only [Bool.and_eq_true] at hw;obtain ⟨⟨w2,w4⟩,w6⟩:=hw;cases h;have eo:en.op=op:=by simpa using List.find?_some e1
   have eo':en'.op=op':=by simpa using List.find?_some e2
   obtain ⟨rr,q1,q2⟩:=en.ok X ok.gx;obtain ⟨rr',q1',q2'⟩:=en'.ok X ok.gx;rw [eo] at q1;rw [eo'] at q1';obtain ⟨a1,_,a2⟩:=BR R ok e3;obtain ⟨b1,_,b2⟩:=BR R ok e4;have hb:=Cd (R.E ok e5);have c1:AD Γ [x.a,.ev x.Γ y.Γ y.js y.f] y.Γ (x.js++(y.js++[])):=a2 (by unfold AD;exact ⟨rfl,_,rfl,BA⟩) w2;have c2:AD y.Γ [z.a] z.Γ (z.js++[]):=b2 BA w4;exact ⟨PT.imp (JV q1 q1' a1 hb b1 hm) fun σ H Q h=>Gi (Q:=fun v H'=>∃ k,v=V.bl k/\Q k H') q2 q2' c1 c2 w6 (IC h fun b H' q=>⟨b,rfl,q⟩),fun o=>PE.imp (Je q1 q1' a1 hb b1 hm) fun σ H Q h=>Gi q2 q2' c1 c2 w6 (Wt h)⟩
  ·cases h
def fM (r:Rec) (C:Cf) (Γ:Gm) (a:Expr) (op:CmpOp) (b:Expr) (op':CmpOp) (c:Expr):Option CT:=if lastMarks [op,op'] [b,c] then none else (Uc C b).bind fun i=>(C.T.cmps.find? fun e=>e.op == op).bind fun en=>(C.T.cmps.find? fun e=>e.op == op').bind fun en'=>(Cz r C Γ true a).bind fun x=>(Cz r C x.Γ true c).bind fun z =>
 if (Γ.getD i none).isSome && Cb x.a x.Γ && aA x.Γ i && Cb z.a z.Γ && aA z.Γ i && BP z.Γ x.Γ then some ⟨z.Γ,(x.js++[])++(z.js++[]),cb (two en.f) (two en'.f) x.a i z.a⟩ else none
theorem Zg {r:Rec} (R:OkR r) {C:Cf} {X:Cx} {Γ:Gm} {a b c:Expr} {op op':CmpOp} {pos:Pos} {t:CT} (ok:Cok C X) (h:fM r C Γ a op b op' c=some t):PT X (.Compare a [op,op'] [b,c] pos) (tT X.K Γ t.Γ t.js t.f)/\∀ o,PE X (.Compare a [op,op'] [b,c] pos) (tE X.K Γ o t.Γ t.js (LW t.f)):=by
 unfold fM at h;split at h
 ·cases h
 ·rename_i hm;rw [Bool.not_eq_true] at hm;obtain ⟨i,e0,h⟩:=bind_some' h;obtain ⟨en,e1,h⟩:=bind_some' h;obtain ⟨en',e2,h⟩:=bind_some' h;obtain ⟨x,e3,h⟩:=bind_some' h;obtain ⟨z,e4,h⟩:=bind_some' h;split at h
  ·rename_i hw;simp only [Bool.and_eq_true] at hw;obtain ⟨⟨⟨⟨⟨w1,w2⟩,w3⟩,w4⟩,w5⟩,w6⟩:=hw;cases h;have eo:en.op=op:=by simpa using List.find?_some e1
   have eo':en'.op=op':=by simpa using List.find?_some e2
   obtain ⟨rr,q1,q2⟩:=en.ok X ok.gx;obtain ⟨rr',q1',q2'⟩:=en'.ok X ok.gx;rw [eo] at q1;rw [eo'] at q1';obtain ⟨a1,_,a2⟩:=BR R ok e3;obtain ⟨b1,_,b2⟩:=BR R ok e4;obtain ⟨o,hi⟩:=getD_some w1;obtain ⟨o2,lo2,hi2⟩:=GV w3;have c1:AD Γ [x.a,.rf i] x.Γ (x.js++[]):=a2 (by unfold AD;exact ⟨⟨o2,hi2⟩,⟨o2,lo2,hi2⟩,BA⟩) w2;have c2:AD x.Γ [.rf i,z.a] z.Γ (z.js++[]):=by
    unfold AD;exact ⟨⟨o2,hi2⟩,GV w5,b2 BA w4⟩
   exact ⟨PT.imp (JV q1 q1' a1 (Cs ok e0) b1 hm) fun σ H Q h=>Hr (Q:=fun v H'=>∃ k,v=V.bl k/\Q k H') q2 q2' c1 c2 hi w6 (IC h fun b H' q=>⟨b,rfl,q⟩),fun o=>PE.imp (Je q1 q1' a1 (Cs ok e0) b1 hm) fun σ H Q h=>Hr q2 q2' c1 c2 hi w6 (Wt h)⟩
  ·cases h
def SF (r:Rec) (C:Cf) (Γ:Gm) (a:Expr) (op:CmpOp) (b:Expr) (op':CmpOp) (c:Expr):Option CT:=match Uc C b with
 | some _=>fM r C Γ a op b op' c
 | none=>Zh r C Γ a op b op' c
theorem Mr {r:Rec} (R:OkR r) {C:Cf} {X:Cx} {Γ:Gm} {a b c:Expr} {op op':CmpOp} {pos:Pos} {t:CT} (ok:Cok C X) (h:SF r C Γ a op b op' c=some t):PT X (.Compare a [op,op'] [b,c] pos) (tT X.K Γ t.Γ t.js t.f)/\∀ o,PE X (.Compare a [op,op'] [b,c] pos) (tE X.K Γ o t.Γ t.js (LW t.f)):=by
 unfold SF at h;split at h
 ·exact Zg R ok h
 ·exact Vh R ok h
def MD (r:Rec) (C:Cf) (Γ:Gm) (e:Expr):Option CT:=match e with
 | .Compare a [op] [b] _=>SE r C Γ a op b
 | .Compare a [op,op'] [b,c] _=>SF r C Γ a op b op' c
 | .UnaryOp .Not x _=>(r.T C Γ x).map fI
 | .BoolOp op vs pos=>WH r C Γ op vs pos
 | e=>if MZ e then ZT r C Γ e else none
theorem PQ {r:Rec} (R:OkR r) {C:Cf} {X:Cx} {Γ:Gm} {e:Expr} {c:CT} (ok:Cok C X) (h:MD r C Γ e=some c):PT X e (tT X.K Γ c.Γ c.js c.f):=by
 have val:MZ e=true->(if MZ e then ZT r C Γ e else none)=some c->PT X e (tT X.K Γ c.Γ c.js c.f):=fun hv h=>by
  rw [if_pos hv] at h;exact VV R ok hv h
 match e,h with
 | .Compare a ops bs pos,h =>
  match ops,bs,h with
  | [op],[b],h=>exact (Mq R ok h).1
  | [op,op'],[b,c],h=>exact (Mr R ok h).1
  | [],_,h=>cases h
  | [_],[],h=>cases h
  | [_],_::_::_,h=>cases h
  | [_,_],[],h=>cases h
  | [_,_],[_],h=>cases h
  | [_,_],_::_::_::_,h=>cases h
  | _::_::_::_,_,h=>cases h
 | .UnaryOp op x pos,h =>
  cases op with
  | Not =>
   cases q:r.T C Γ x with
   | none=>simp only [MD,q] at h;cases h
   | some t =>
    simp only [MD,q] at h;cases h;exact PT.imp (Xp (R.T ok q)) fun _ _ _ h=>XG h
  | _=>exact val rfl h
 | .BoolOp op vs pos,h=>exact Pc R ok h
 | .IfExp a b c' d,h=>cases h
 | .NamedExpr ..,h | .BinOp ..,h | .Lambda ..,h | .Dict ..,h | .Set ..,h | .ListComp ..,h | .SetComp ..,h | .DictComp ..,h | .GeneratorExp ..,h | .Await ..,h | .Yield ..,h | .YieldFrom ..,h | .Call ..,h | .FormattedValue ..,h | .JoinedStr ..,h | .Constant ..,h | .Attribute ..,h | .Subscript ..,h | .Starred ..,h | .Name ..,h | .List ..,h | .Tuple ..,h | .Slice ..,h=>exact val rfl h
noncomputable def Wv {R:Type} (d:Dv) (k:Bool->Option R):Option R:=match d with | .bl b=>k b | _=>none
theorem Gk {R:Type} {d:Dv} {k:Bool->Option R} {r:R} (h:Wv d k=some r):∃ b,d=.bl b/\k b=some r:=by
 cases d<;>first | (cases h;done) | exact ⟨_,rfl,h⟩
def RN (f g:Ev Dv):Ev Dv:=fun R m k=>f R m fun d m1=>Wv d fun b=>if b=true then g R m1 k else k (.bl false) m1
def Wi (f g:Ev Dv):Ev Dv:=fun R m k=>f R m fun d m1=>Wv d fun b=>if b=true then k (.bl true) m1 else g R m1 k
def RD (f:Ev Dv):Ev Dv:=fun R m k=>f R m fun d m1=>Wv d fun b=>k (.bl (!b)) m1
section
variable {K:W.Frag} {Γ Γ' Γ2:Gm} {js js2:List Nat} {σ:St} {H:Hp} {f u:Ev Dv} {Q:VK}
theorem XJ (hw:BP Γ' Γ2=true) (h:tE K Γ 0 Γ' (js++js2) (RN f u) σ H Q):WG (tE K Γ 0 Γ2 js f) (tE K Γ2 0 Γ' js2 u) σ H Q:=by
 obtain ⟨g,m,P,r,R,k,res,e,q⟩:=h;refine ⟨g,m,P,r,R,_,res,e,fun d m1 g1 P1 Pv v H1 hk ag s rv r1 n=>?_⟩;replace hk:=Gk hk;obtain ⟨b,rfl,hk⟩:=hk;have s1:Step _ _ _ g1 P1 H1:=s.less fun _ z=>.inl z
 refine ⟨b,rep_bl rv,?_⟩;cases b with
 | true=>rw [if_pos rfl] at hk ⊢;exact ⟨g1,m1,P1,r1,R,k,res,hk,fun d m2 g2 P2 Pw w H2 hk2 ag2 s2 rv2 r2 n2=>q d m2 g2 P2 Pw w H2 hk2 (ag.trans ag2) (s1.trans s2) rv2 r2 n2⟩
 | false =>
  rw [if_neg Bool.false_ne_true] at hk ⊢;obtain ⟨g2,P2,s2,r2⟩:=r1.weaken hw;exact q _ m1 g2 P2 nop _ H1 hk (ag.mono fun _ z=>List.mem_append_left _ z) ((s1.trans s2).less fun _ z=>z.elim id False.elim) Bt r2 fun _ _ z=>z
theorem aW (hw:BP Γ' Γ2=true) (h:tE K Γ 0 Γ' (js++js2) (Wi f u) σ H Q):aS (tE K Γ 0 Γ2 js f) (tE K Γ2 0 Γ' js2 u) σ H Q:=by
 obtain ⟨g,m,P,r,R,k,res,e,q⟩:=h;refine ⟨g,m,P,r,R,_,res,e,fun d m1 g1 P1 Pv v H1 hk ag s rv r1 n=>?_⟩;replace hk:=Gk hk;obtain ⟨b,rfl,hk⟩:=hk;have s1:Step _ _ _ g1 P1 H1:=s.less fun _ z=>.inl z
 refine ⟨b,rep_bl rv,?_⟩;cases b with
 | false=>rw [if_neg Bool.false_ne_true] at hk ⊢;exact ⟨g1,m1,P1,r1,R,k,res,hk,fun d m2 g2 P2 Pw w H2 hk2 ag2 s2 rv2 r2 n2=>q d m2 g2 P2 Pw w H2 hk2 (ag.trans ag2) (s1.trans s2) rv2 r2 n2⟩
 | true =>
  rw [if_pos rfl] at hk ⊢;obtain ⟨g2,P2,s2,r2⟩:=r1.weaken hw;exact q _ m1 g2 P2 nop _ H1 hk (ag.mono fun _ z=>List.mem_append_left _ z) ((s1.trans s2).less fun _ z=>z.elim id False.elim) Bt r2 fun _ _ z=>z
theorem XI (h:tE K Γ 0 Γ' js (RD f) σ H Q):WA (tE K Γ 0 Γ' js f) σ H Q:=by
 obtain ⟨g,m,P,r,R,k,res,e,q⟩:=h;refine ⟨g,m,P,r,R,_,res,e,fun d m1 g1 P1 Pv v H1 hk ag s rv r1 n=>?_⟩;replace hk:=Gk hk;obtain ⟨b,rfl,hk⟩:=hk;exact ⟨b,rep_bl rv,q _ m1 g1 P1 nop _ H1 hk ag (s.less fun _ z=>z.elim .inl False.elim) Bt r1 fun _ _ z=>z⟩
end
def cx (r:Rec) (C:Cf) (Γ:Gm) (x:Expr):Option CE:=(r.E C Γ x).bind fun c=>some ⟨0,c.Γ,c.js,RD c.f⟩
def Pd (r:Rec) (C:Cf) (Γ:Gm) (op:BoolOp) (vs:List Expr) (pos:Pos):Option CE:=match vs with
 | []=>none
 | [a]=>r.E C Γ a
 | a::b::vs=>(r.E C Γ a).bind fun x=>(r.E C x.Γ (.BoolOp op (b::vs) pos)).bind fun y=>let Γ':=BV x.Γ y.Γ;let js:=x.js++y.js;if BP Γ' x.Γ && BP Γ' y.Γ then some ⟨0,Γ',js,LU (Au Γ' js) (match op with | .And=>RN x.f y.f | .Or=>Wi x.f y.f)⟩ else none
theorem NG {r:Rec} (R:OkR r) {C:Cf} {X:Cx} {Γ:Gm} {op:BoolOp} {vs:List Expr} {pos:Pos} {c:CE} (ok:Cok C X) (h:Pd r C Γ op vs pos=some c):PE X (.BoolOp op vs pos) (tE X.K Γ c.o c.Γ c.js c.f):=by
 match vs,h with
 | [],h=>cases h
 | [a],h=>exact YH (R.E ok h)
 | a::b::vs,h =>
  obtain ⟨x,e1,h⟩:=bind_some' h;obtain ⟨y,e2,h⟩:=bind_some' h;simp only at h;split at h
  ·rename_i hw;rw [Bool.and_eq_true] at hw;have ha:=Cd (R.E ok e1);have hb:=Cd (R.E ok e2);have jk:∀ (i o:Nat),(BV x.Γ y.Γ)[i]?=some (some o)->i∈Au (BV x.Γ y.Γ) (x.js++y.js)\/i∉x.js++y.js:=fun i o h=>BH h
   cases op with
   | And=>cases h;exact PE.imp (YM ha (PE.imp hb fun _ _ _ h=>FS hw.2 (fun _ z=>z) h)) fun σ H Q h=>XJ hw.1 (FX jk (fun i z=>As z) h)
   | Or=>cases h;exact PE.imp (bW ha (PE.imp hb fun _ _ _ h=>FS hw.2 (fun _ z=>z) h)) fun σ H Q h=>aW hw.1 (FX jk (fun i z=>As z) h)
  ·cases h
def dD (r:Rec) (C:Cf) (Γ:Gm) (c a b:Expr):Option CE:=(r.T C Γ c).bind fun t=>(r.E C t.Γ a).bind fun x=>(r.E C t.Γ b).bind fun y=>let Γ':=BV x.Γ y.Γ;let js:=t.js++(x.js++y.js);if BP Γ' x.Γ && BP Γ' y.Γ then some ⟨0,Γ',js,LU (Au Γ' js) (Ge t.f x.f y.f)⟩ else none
theorem Vd {r:Rec} (R:OkR r) {C:Cf} {X:Cx} {Γ:Gm} {c a b:Expr} {pos:Pos} {d:CE} (ok:Cok C X) (h:dD r C Γ c a b=some d):PE X (.IfExp c a b pos) (tE X.K Γ d.o d.Γ d.js d.f):=by
 obtain ⟨t,e1,h⟩:=bind_some' h;obtain ⟨x,e2,h⟩:=bind_some' h;obtain ⟨y,e3,h⟩:=bind_some' h;simp only at h;split at h
 ·rename_i hw;rw [Bool.and_eq_true] at hw;cases h;exact PE.imp (QU (R.T ok e1) (PE.imp (Cd (R.E ok e2)) fun _ _ _ h=>FS hw.1 (fun _ z=>z) h) (PE.imp (Cd (R.E ok e3)) fun _ _ _ h=>FS hw.2 (fun _ z=>z) h)) fun σ H Q h=>aX (FX (fun i o z=>BH z) (fun i z=>As z) h)
 ·cases h
theorem BO {es:List Expr} {env:Env} {pos:Pos} (h:es.all Ax=true):(backTo pos (starEach es env)).any (·.1)=false:=by
 induction es with
 | nil=>rfl
 | cons e es ih =>
  rw [List.all_cons,Bool.and_eq_true] at h;rw [AI h.1];show (false || (backTo pos (starEach es env)).any (·.1))=false;rw [ih h.2];rfl
theorem Zp {es:List Expr} {env:Env} {pos:Pos} (h:es.all Ax=true):(backTo pos (starEach es env)).all (fun x=>!x.1)=true:=by
 induction es with
 | nil=>rfl
 | cons e es ih =>
  rw [List.all_cons,Bool.and_eq_true] at h;rw [AI h.1];show (true && (backTo pos (starEach es env)).all (fun x=>!x.1))=true;rw [ih h.2];rfl
def Wr (r:Rec) (C:Cf) (Γ:Gm) (s:Sig) (es:List Expr):Option CE:=(r.A C Γ ((List.range es.length).map s.io.contains) es).bind fun c=>if XY c.as s.io && (es.length == s.ps.length) && (slots c.as s.io).all (fun i=>c.Γ.getD i none == some 1) then some ⟨s.ro,c.Γ,c.js++slots c.as s.io,LV s c.as⟩ else none
theorem Rz {r:Rec} (R:OkR r) {C:Cf} {X:Cx} {Γ:Gm} {x:Str} {s:Sig} {es:List Expr} {p pos:Pos} {c:CE} (ok:Cok C X) (hs:(x,s)∈C.fs) (hg:Gl X x) (hn:Qe x=true) (h:Wr r C Γ s es=some c):PE X (.Call (.Name x p) es [] pos) (tE X.K Γ c.o c.Γ c.js c.f):=by
 obtain ⟨c1,e1,h⟩:=bind_some' h;split at h
 ·rename_i hw;simp only [Bool.and_eq_true,List.all_eq_true,beq_iff_eq] at hw;cases h;obtain ⟨a1,a2,a3,a4,_⟩:=R.A ok e1;obtain ⟨nd,hio,j,kk,hj,hrm,F⟩:=ok.fs x s hs;have run:∀ {σ H Q},tE X.K Γ s.ro c1.Γ (c1.js++slots c1.as s.io) (LV s c1.as) σ H Q->aV (NJ X.K s) (BM X.K c1.as) σ H Q:=fun h=>Rp a2 hw.1.1 (a3.trans hw.1.2) nd hio (fun i hi=>BQ (hw.2 i hi)) h
  cases es with
  | nil =>
   have e:c1.as=[]:=List.eq_nil_of_length_eq_zero a3;refine PE.imp (QV F hrm hj hg (Bu hn).1) fun σ H Q h=>?_
   have:=run h;rw [e] at this;exact this
  | cons e es =>
   rw [List.all_cons,Bool.and_eq_true] at a4;exact PE.imp (MR F hrm hj hg a1 (Bu hn).1 (AI a4.1) (BO a4.2)) fun σ H Q h=>run h
 ·cases h
def Wp (r:Rec) (C:Cf) (Γ:Gm) (s:Sig) (es:List Expr):Option CE:=(r.A C Γ (List.replicate es.length true) es).bind fun c=>if es.length == s.ps.length then some ⟨1,c.Γ,c.js,Ij s c.as⟩ else none
theorem Rx {r:Rec} (R:OkR r) {C:Cf} {X:Cx} {Γ:Gm} {x:Str} {s:Sig} {es:List Expr} {p pos:Pos} {c:CE} (ok:Cok C X) (hs:(x,s)∈C.fs) (hio:s.io=[]) (hg:Gl X x) (hn:Qe x=true) (h:Wp r C Γ s es=some c):PE X (.Call (.Name x p) es [] pos) (tE X.K Γ c.o c.Γ c.js c.f):=by
 obtain ⟨c1,e1,h⟩:=bind_some' h;split at h
 ·rename_i hw;rw [beq_iff_eq] at hw;cases h;obtain ⟨a1,a2,a3,a4,_⟩:=R.A ok e1;obtain ⟨nd,_,j,kk,hj,hrm,F⟩:=ok.fs x s hs;have run:∀ {σ H Q},tE X.K Γ 1 c1.Γ c1.js (Ij s c1.as) σ H Q->aV (NJ X.K s) (BM X.K c1.as) σ H Q:=fun h=>OM a2 hio (a3.trans hw) h
  cases es with
  | nil =>
   have e:c1.as=[]:=List.eq_nil_of_length_eq_zero a3;refine PE.imp (QV F hrm hj hg (Bu hn).1) fun σ H Q h=>?_
   have:=run h;rw [e] at this;exact this
  | cons e es =>
   rw [List.all_cons,Bool.and_eq_true] at a4;exact PE.imp (MR F hrm hj hg a1 (Bu hn).1 (AI a4.1) (BO a4.2)) fun σ H Q h=>run h
 ·cases h
theorem DM:∀ (sl:List Nat) (bs:List Dv) (m:M) (d:Dv),∃ d',Df sl bs (m++[d])=Df sl bs m++[d']
 | [],_,m,d=>⟨d,rfl⟩
 | _::_,[],m,d=>⟨d,rfl⟩
 | s::sl,b::bs,m,d=>by
  unfold Df
  by_cases h:s < m.length
  ·rw [List.set_append_left _ _ h];exact DM sl bs _ d
  ·rw [List.set_append_right _ _ (by omega),List.set_eq_of_length_le (l:=m) (by omega)];cases s - m.length with
   | zero=>exact DM sl bs m b
   | succ k=>exact DM sl bs m d
section
variable {K:W.Frag} {g:G} {H H':Hp} {σ:St} {Γ Γ':Gm} {js:List Nat} {m:M} {P:Fp} {as:List Ar}
theorem Rel.snoc {d:Dv} {v:V} {Pv:Fp} (r:Rel K g H Γ m σ P) (h:Rep K g H 1 d v Pv) (n:Disj P Pv):Rel K g H (Γ++[some 1]) (m++[d]) (σ++[some v]) fun a=>P a\/Pv a:=by
  obtain ⟨zd,F,h1,h4⟩:=r
  let F':Nat->Fp:=fun i a=>(i < Γ.length/\F i a)\/(i=Γ.length/\Pv a)
  have lt:∀ {i:Nat} {a:Addr},F i a->i < Γ.length:=fun {i a} z=>by
    rcases Nat.lt_or_ge i Γ.length with w | w
    · exact w
    · exact (h1.out i (fun o e=>by rw [List.getElem?_eq_none w] at e;cases e) a z).elim
  refine ⟨zd,F',⟨by simp [h1.l1],by simp [h1.l2],fun i o e=>?_,fun i e a z=>?_,fun i j ne a z w=>?_⟩,fun a=>⟨fun z=>?_,fun ⟨i,z⟩=>?_⟩⟩
  · rcases Nat.lt_or_ge i Γ.length with w | w
    · rw [List.getElem?_append_left w] at e;obtain ⟨d',v',e1,e2,e3⟩:=h1.rep i o e;refine ⟨d',v',by rw [List.getElem?_append_left (by rw [h1.l1];exact w)];exact e1,by rw [List.getElem?_append_left (by rw [h1.l2];exact w)];exact e2,e3.iff fun a=>⟨fun z=>z.elim (fun z=>z.2) fun z=>by omega,fun z=>.inl ⟨w,z⟩⟩⟩
    · have:i=Γ.length:=by
        have:=(List.getElem?_eq_some_iff.mp e).1;simp at this;omega
      subst this;rw [List.getElem?_append_right (Nat.le_refl _),Nat.sub_self] at e;cases e;refine ⟨d,v,by rw [<- h1.l1,List.getElem?_append_right (Nat.le_refl _),Nat.sub_self];rfl,by rw [<- h1.l2,List.getElem?_append_right (Nat.le_refl _),Nat.sub_self];rfl,h.iff fun a=>⟨fun z=>z.elim (fun z=>by omega) fun z=>z.2,fun z=>.inr ⟨rfl,z⟩⟩⟩
  · rcases z with ⟨w,z⟩ | ⟨rfl,z⟩
    · exact h1.out i (fun o e'=>e o (by rw [List.getElem?_append_left w];exact e')) a z
    · exact e 1 (by rw [List.getElem?_append_right (Nat.le_refl _),Nat.sub_self];rfl)
  · rcases z with ⟨_,z⟩ | ⟨e1,z⟩<;>rcases w with ⟨_,w⟩ | ⟨e2,w⟩
    · exact h1.dj i j ne a z w
    · exact n a ((h4 a).mpr ⟨i,z⟩) w
    · exact n a ((h4 a).mpr ⟨j,w⟩) z
    · omega
  · rcases z with z | z
    · obtain ⟨i,z⟩:=(h4 a).mp z;exact ⟨i,.inl ⟨lt z,z⟩⟩
    · exact ⟨_,.inr ⟨rfl,z⟩⟩
  · rcases z with ⟨_,z⟩ | ⟨_,z⟩
    · exact .inl ((h4 a).mpr ⟨i,z⟩)
    · exact .inr z
theorem Rel.init {x:Option Nat} {d:Dv} {y:Option V} (r:Rel K g H (Γ++[x]) (m++[d]) (σ++[y]) P):∃ P0,Rel K g H Γ m σ P0/\∀ a,P0 a->P a:=by
 obtain ⟨zd,F,h1,h4⟩:=r;have l1:m.length=Γ.length:=by have:=h1.l1;simpa using this
 have l2:σ.length=Γ.length:=by have:=h1.l2;simpa using this
 let F':Nat->Fp:=fun i a=>i < Γ.length/\F i a
 refine ⟨fun a=>∃ i,F' i a,⟨zd,F',⟨l1,l2,fun i o e=>?_,fun i e a z=>?_,fun i j ne a z w=>h1.dj i j ne a z.2 w.2⟩,fun _=>Iff.rfl⟩,fun a ⟨i,z⟩=>(h4 a).mpr ⟨i,z.2⟩⟩
 ·have w:=(List.getElem?_eq_some_iff.mp e).1;obtain ⟨d',v',e1,e2,e3⟩:=h1.rep i o (by rw [List.getElem?_append_left w];exact e);rw [List.getElem?_append_left (by omega)] at e1 e2;exact ⟨d',v',e1,e2,e3.iff fun a=>⟨fun z=>z.2,fun z=>⟨w,z⟩⟩⟩
 ·exact h1.out i (fun o e'=>e o (by rw [List.getElem?_append_left z.1] at e';exact e')) a z.2
theorem AO.snoc {d:Dv} {v:V} (l1:m.length=Γ.length) (l2:σ.length=Γ.length) (s:Lw H H'):∀ {as:List Ar} {ds:List Dv} {vs:List V},AO K g H Γ m σ as ds vs->AO K g H' (Γ++[some 1]) (m++[d]) (σ++[some v]) (as++[Ar.rf Γ.length]) (ds++[d]) (vs++[v])
 | [],ds,vs,h=>by
  unfold AO at h;obtain ⟨rfl,rfl⟩:=h;show AO K g H' _ _ _ [Ar.rf Γ.length] [d] [v];unfold AO;refine ⟨v,[],[],?_,rfl,by rw [<- l2,List.getElem?_append_right (Nat.le_refl _),Nat.sub_self];rfl,⟨1,by decide,by rw [List.getElem?_append_right (Nat.le_refl _),Nat.sub_self];rfl⟩,by unfold AO;exact ⟨rfl,rfl⟩⟩;have:(m++[d]).at Γ.length=d:=by unfold M.at;rw [List.getD_eq_getElem?_getD,<- l1,List.getElem?_append_right (Nat.le_refl _),Nat.sub_self];rfl
  rw [this]
 | .ev _ _ _ f::as,ds,vs,h=>by
  unfold AO at h;obtain ⟨d0,v0,ds',vs',rfl,rfl,h1,h2⟩:=h;show AO K g H' _ _ _ (.ev _ _ _ f::(as++[Ar.rf Γ.length])) (d0::(ds'++[d])) (v0::(vs'++[v]));unfold AO;exact ⟨d0,v0,_,_,rfl,rfl,h1.held (Step.same (g:=g) (P:=nop) s) FpOk.nop fun _ z=>z.elim,AO.snoc l1 l2 s h2⟩
 | .rf i::as,ds,vs,h=>by
  unfold AO at h;obtain ⟨v0,ds',vs',rfl,rfl,h1,⟨o,ho,h2⟩,h3⟩:=h;have w:=(List.getElem?_eq_some_iff.mp h2).1;show AO K g H' _ _ _ (.rf i::(as++[Ar.rf Γ.length])) (m.at i::(ds'++[d])) (v0::(vs'++[v]));unfold AO;refine ⟨v0,_,_,?_,rfl,by rw [List.getElem?_append_left (by omega)];exact h1,⟨o,ho,by rw [List.getElem?_append_left w];exact h2⟩,AO.snoc l1 l2 s h3⟩;have:(m++[d]).at i=m.at i:=by unfold M.at;rw [List.getD_eq_getElem?_getD,List.getD_eq_getElem?_getD,List.getElem?_append_left (by omega)]
  rw [this]
def Ik (s:Sig) (as:List Ar) (N:Nat):Ev Dv:=fun R m k=>AM as R m fun ds m1=>s.cps R (ds++[.dct [] []]) fun d bs=>k d (Df (slots (as++[Ar.rf N]) s.io) bs m1)
theorem OU {s:Sig} (c:AD Γ as Γ' js) (hs:XY (as++[Ar.rf Γ'.length]) s.io=true) (hn:(as++[Ar.rf Γ'.length]).length=s.ps.length) (nd:s.io.Nodup) (hio:∀ i∈s.io,i < s.ps.length) (hl:∀ i∈slots (as++[Ar.rf Γ'.length]) s.io,(Γ'++[some 1])[i]?=some (some 1)) {Q:VK}
    (h:tE K Γ s.ro Γ' (js++slots (as++[Ar.rf Γ'.length]) s.io) (Ik s as Γ'.length) σ H Q):BM K as σ H fun vs H1=>∀ p,H1 p=none->NJ K s (vs++[.ref p]) (upd H1 p (.dK [])) Q E0:=by
  obtain ⟨g,m,P,r,R,k,res,e,q⟩:=h;refine AJ as r c e fun ds m1 g1 P1 vs H1 hk ag st ar r1 p hp=>?_
  rw [s.eq] at hk;obtain ⟨⟨d,bs⟩,e1,e2⟩:=bind_some' hk;have nw:AV K g1 H1 1 (.dct [] []) (.ref p) (upd H1 p (.dK [])):=AV.dct r1.zd hp;have sm:=nw.1;obtain ⟨Pv,s2,h1,r2,n2⟩:=AV.go Step.refl r1 nw;obtain ⟨l1,l2⟩:m1.length=Γ'.length/\σ.length=Γ'.length:=by obtain ⟨_,F,h,_⟩:=r1;exact ⟨h.l1,h.l2⟩
  refine Hs hs hn nd hio hl (r2.snoc h1 n2) (ar.snoc l1 l2 sm) e1 fun g2 P2 Pw v H2 st2 rv rz n=>?_
  obtain ⟨d',ed⟩:=DM (slots (as++[Ar.rf Γ'.length]) s.io) bs m1 (.dct [] []);rw [ed] at rz;obtain ⟨P0,r0,hP⟩:=rz.init;exact q d _ g2 P0 Pw v H2 e2 (ag.trans (JU _ bs m1)) (st.trans (s2.trans (st2.less fun a z=>z.elim (fun z=>.inl (hP a z)) .inr))) rv r0 fun a z w=>n a (hP a z) w
end
noncomputable def IZ:Expr->Bool
 | .Dict [] [] _=>true
 | _=>false
theorem Nt {e:Expr} (h:IZ e=true):∃ pos,e=.Dict [] [] pos:=by
 unfold IZ at h;split at h
 ·exact ⟨_,rfl⟩
 ·cases h
def Wq (r:Rec) (C:Cf) (Γ:Gm) (s:Sig) (es:List Expr):Option CE:=(r.A C Γ ((List.range es.length).map s.io.contains) es.dropLast).bind fun c=>if XY (c.as++[Ar.rf c.Γ.length]) s.io && (es.length == s.ps.length) && (slots (c.as++[Ar.rf c.Γ.length]) s.io).all (fun i=>(c.Γ++[some 1]).getD i none == some 1) then some ⟨s.ro,c.Γ,c.js++slots (c.as++[Ar.rf c.Γ.length]) s.io,Ik s c.as c.Γ.length⟩ else none
theorem Ry {r:Rec} (R:OkR r) {C:Cf} {X:Cx} {Γ:Gm} {x:Str} {s:Sig} {es:List Expr} {p pos:Pos} {c:CE} (ok:Cok C X) (hs:(x,s)∈C.fs) (hg:Gl X x) (hn:Qe x=true) (hd:(es.getLast?.map IZ).getD false=true) (h:Wq r C Γ s es=some c):PE X (.Call (.Name x p) es [] pos) (tE X.K Γ c.o c.Γ c.js c.f):=by
  obtain ⟨c1,e1,h⟩:=bind_some' h;split at h
  · rename_i hw;simp only [Bool.and_eq_true,List.all_eq_true,beq_iff_eq] at hw;cases h;obtain ⟨a1,a2,a3,a4,_⟩:=R.A ok e1;obtain ⟨nd,hio,j,kk,hj,hrm,F⟩:=ok.fs x s hs;obtain ⟨l,es0,rfl⟩:∃ l es0,es=es0++[l]:=by
      cases q:es.getLast? with
      | none=>rw [q] at hd;cases hd
      | some l=>obtain ⟨ys,e⟩:=List.getLast?_eq_some_iff.mp q;exact ⟨l,ys,e⟩
    rw [List.getLast?_concat] at hd;obtain ⟨ps,rfl⟩:=Nt hd;rw [List.dropLast_concat] at e1 a1 a3 a4;have pa:=R.B ok e1 (Jc (X:=X) (pos:=ps)) rfl;have run:∀ {σ H Q},tE X.K Γ s.ro c1.Γ (c1.js++slots (c1.as++[Ar.rf c1.Γ.length]) s.io) (Ik s c1.as c1.Γ.length) σ H Q->aV (NJ X.K s) (PJ (BM X.K c1.as) PM) σ H Q:=fun h=>OU a2 hw.1.1 (by rw [<- hw.1.2];simp [a3]) nd hio (fun i hi=>BQ (hw.2 i hi)) h
    have ns:(es0++[Expr.Dict [] [] ps]).all Ax=true:=by rw [List.all_append,a4];rfl
    cases es0 with
    | nil=>exact PE.imp (MR F hrm hj hg pa (Bu hn).1 (AI rfl) rfl) fun σ H Q h=>run h
    | cons e es =>
      rw [List.cons_append,List.all_cons,Bool.and_eq_true] at ns;exact PE.imp (MR F hrm hj hg pa (Bu hn).1 (AI ns.1) (BO ns.2)) fun σ H Q h=>run h
  · cases h
def ZY (r:Rec) (C:Cf) (Γ:Gm) (s:Sig) (es:List Expr):Option CE:=if s.nb && s.io.isEmpty then Wp r C Γ s es else if (es.getLast?.map IZ).getD false && s.io.contains (es.length - 1) then Wq r C Γ s es else Wr r C Γ s es
theorem VZ {r:Rec} (R:OkR r) {C:Cf} {X:Cx} {Γ:Gm} {x:Str} {s:Sig} {es:List Expr} {p pos:Pos} {c:CE} (ok:Cok C X) (hs:(x,s)∈C.fs) (hg:Gl X x) (hn:Qe x=true) (h:ZY r C Γ s es=some c):PE X (.Call (.Name x p) es [] pos) (tE X.K Γ c.o c.Γ c.js c.f):=by
 unfold ZY at h;split at h
 ·rename_i z;rw [Bool.and_eq_true,List.isEmpty_iff] at z;exact Rx R ok hs z.2 hg hn h
 ·split at h
  ·rename_i z;rw [Bool.and_eq_true] at z;exact Ry R ok hs hg hn z.1 h
  ·exact Rz R ok hs hg hn h
def Rw (r:Rec) (C:Cf) (Γ:Gm) (en:CallE) (es:List Expr):Option CE:=if es.isEmpty then none else (r.A C Γ (List.replicate es.length true) es).bind fun c=>some ⟨en.o,c.Γ,c.js,Cy en.f (AM c.as)⟩
theorem Rv {r:Rec} (R:OkR r) {C:Cf} {X:Cx} {Γ:Gm} {en:CallE} {es:List Expr} {p pos:Pos} {c:CE} (ok:Cok C X) (hb:en.x∈C.bl) (hg:Gl X en.x) (hn:Qe en.x=true) (h:Rw r C Γ en es=some c):PE X (.Call (.Name en.x p) es [] pos) (tE X.K Γ c.o c.Γ c.js c.f):=by
 cases es with
 | nil=>cases h
 | cons e es =>
  unfold Rw at h;rw [if_neg (by simp)] at h;obtain ⟨c1,e1,h⟩:=bind_some' h;cases h;obtain ⟨a1,a2,a3,a4,_⟩:=R.A ok e1;rw [List.all_cons,Bool.and_eq_true] at a4;obtain ⟨rr,q1,q2⟩:=en.ok X ok.gx;have n:=Bu hn;rcases q2 with ⟨id,q2,q3⟩ | ⟨T,q2,q3⟩
  ·exact PE.imp (QW q2 hg (ok.bl _ hb) q3 a1 n.2.2 n.1 (AI a4.1) (BO a4.2)) fun _ _ _ h=>Be q1 a2 h
  ·exact PE.imp (NX q2 hg (ok.bl _ hb) q3 a1 n.2.2 n.1 (AI a4.1) (BO a4.2)) fun _ _ _ h=>Be q1 a2 h
noncomputable def SX:Expr->Bool
 | .Call _ _ _ _=>false
 | _=>true
theorem ES {o:Expr} {name:Str} {env:Env} {w:Sem Value} (h:SX o=true):attributeBase o name env w=w:=by
 cases o<;>first | rfl | (cases h)
def ZZ (r:Rec) (C:Cf) (Γ:Gm) (en:MutE) (i:Nat) (es:List Expr):Option CE:=if es.length < 29 && (Γ.getD i none).isSome then (r.A C Γ [] es).bind fun c=>if c.Γ.getD i none == some 1 then some ⟨0,c.Γ,c.js++[i],RF en.T i en.p (AM c.as)⟩ else none else none
theorem LS {e:Expr} {es:List Expr} {env:Env} {pos:Pos} (h:(e::es).all Ax=true) (hl:(e::es).length < 29):((backTo pos (starEach (e::es) env)).all (fun x=>!x.1) && (backToKw pos (keywordEach [] env)).all (fun x=>x.1.isSome)
      && decide ((e::es).length+([]:List Keyword).length+(if ([]:List Keyword).isEmpty then 0 else 1) < 30))=true:=by
  rw [Zp h];show (true && true && decide _)=true;simp only [Bool.and_self,Bool.true_and,decide_eq_true_eq,List.length_nil,List.isEmpty_nil,if_true];omega
theorem Vb {r:Rec} (R:OkR r) {C:Cf} {X:Cx} {Γ:Gm} {en:MutE} {i:Nat} {o:Expr} {es:List Expr} {apos pos:Pos} {c:CE} (ok:Cok C X) (hi:Uc C o=some i) (hline:(apos.endLine == pos.line)=true) (h:ZZ r C Γ en i es=some c):PE X (.Call (.Attribute o en.x apos) es [] pos) (tE X.K Γ c.o c.Γ c.js c.f):=by
 unfold ZZ at h;split at h
 ·rename_i h0;simp only [Bool.and_eq_true,decide_eq_true_eq] at h0;obtain ⟨c1,e1,h⟩:=bind_some' h;split at h
  ·rename_i h1;cases h;obtain ⟨a1,a2,a3,a4,a5⟩:=R.A ok e1;obtain ⟨id,rr,q1,q2,q3,q4,q5⟩:=en.ok X ok.gx;have ho:=Cs ok hi;have hbase:attributeBase o en.x X.env (eval o X.env)=eval o X.env:=ES (by cases o<;>first | rfl | (cases hi));have run:∀ {σ H Q},tE X.K Γ 0 c1.Γ (c1.js++[i]) (RF en.T i en.p (AM c1.as)) σ H Q->aa X.K en.T rr (Fm i) (BM X.K c1.as) σ H Q:=fun h=>UY q5 en.hT a2 (a5 rfl) (getD_some h0.2) (BQ (beq_iff_eq.mp h1)) h
   cases es with
   | nil =>
    have e:c1.as=[]:=List.eq_nil_of_length_eq_zero a3;refine PE.imp (QY q1 q2 q3 q4 ho hbase hline) fun σ H Q h=>?_
    have:=run h;rw [e] at this;exact this
   | cons e es =>
    have a4':=a4;rw [List.all_cons,Bool.and_eq_true] at a4;exact PE.imp (WQ q1 q2 q3 q4 ho a1 hbase (LS a4' h0.1) hline (AI a4.1) (BO a4.2)) fun σ H Q h=>run h
  ·cases h
 ·cases h
def cz (r:Rec) (C:Cf) (Γ:Gm) (en:MethE) (o:Expr) (es:List Expr):Option CE:=if es.length < 29 && SX o then (Cz r C Γ true o).bind fun x=>(r.A C x.Γ (List.replicate es.length true) es).bind fun c=>if Cb x.a c.Γ then some ⟨en.o,c.Γ,x.js++c.js,RG en.T x.a c.as en.f⟩ else none else none
theorem Lj {r:Rec} (R:OkR r) {C:Cf} {X:Cx} {Γ:Gm} {en:MethE} {o:Expr} {es:List Expr} {apos pos:Pos} {c:CE} (ok:Cok C X) (hline:(apos.endLine == pos.line)=true) (hn:en.n=es.length) (h:cz r C Γ en o es=some c):PE X (.Call (.Attribute o en.x apos) es [] pos) (tE X.K Γ c.o c.Γ c.js c.f):=by
 unfold cz at h;split at h
 ·rename_i h0;simp only [Bool.and_eq_true,decide_eq_true_eq] at h0;obtain ⟨x,e0,h⟩:=bind_some' h;obtain ⟨c1,e1,h⟩:=bind_some' h;split at h
  ·rename_i h1;cases h;obtain ⟨o1,_,o2⟩:=BR R ok e0;obtain ⟨a1,a2,a3,a4,a5⟩:=R.A ok e1;obtain ⟨id,rr,q1,q2,q3,q4,q5⟩:=en.ok X ok.gx;have hbase:attributeBase o en.x X.env (eval o X.env)=eval o X.env:=ES h0.2;rcases en.hT with hT | ⟨hT,hT1⟩
   ·have run:∀ {σ H Q},tE X.K Γ en.o c1.Γ (x.js++c1.js) (RG en.T x.a c1.as en.f) σ H Q->aa X.K en.T rr (Gr X.K x.a) (BM X.K c1.as) σ H Q:=fun h=>Yd q5 hT (o2 a2 h1) h
    cases es with
    | nil =>
     have e:c1.as=[]:=List.eq_nil_of_length_eq_zero a3;refine PE.imp (QY q1 q2 q3 q4 o1 hbase hline) fun σ H Q h=>?_
     have:=run h;rw [e] at this;exact this
    | cons e es =>
     have a4':=a4;rw [List.all_cons,Bool.and_eq_true] at a4;exact PE.imp (WQ q1 q2 q3 q4 o1 a1 hbase (LS a4' h0.1) hline (AI a4.1) (BO a4.2)) fun σ H Q h=>run h
   ·have run:∀ {σ H Q},tE X.K Γ en.o c1.Γ (x.js++c1.js) (RG en.T x.a c1.as en.f) σ H Q->eV rr (Gr X.K x.a) (BM X.K c1.as) σ H Q:=fun h=>Ua q5 (o2 a2 h1) (by rw [hT] at h;exact h)
    rw [hT] at q1 q2;cases es with
    | nil=>rw [hT1] at hn;cases hn
    | cons e es =>
     have a4':=a4;rw [List.all_cons,Bool.and_eq_true] at a4;exact PE.imp (bZ q1 q2 q3 q4 o1 a1 hbase (LS a4' h0.1) hline (AI a4.1) (BO a4.2)) fun σ H Q h=>run h
  ·cases h
 ·cases h
def ZS (c1 c2:CE):Option CE:=if c1.o == c2.o && c1.Γ == c2.Γ && c1.js == c2.js then some ⟨c1.o,c1.Γ,c1.js,LU (Au c1.Γ c1.js) (evOr c1.f c2.f)⟩ else none
theorem VT {X:Cx} {Γ:Gm} {e:Expr} {c1 c2 c:CE} (h1:PE X e (tE X.K Γ c1.o c1.Γ c1.js c1.f)) (h2:PE X e (tE X.K Γ c2.o c2.Γ c2.js c2.f)) (h:ZS c1 c2=some c):PE X e (tE X.K Γ c.o c.Γ c.js c.f):=by
 unfold ZS at h;split at h
 ·rename_i h0;simp only [Bool.and_eq_true,beq_iff_eq] at h0;obtain ⟨⟨e1,e2⟩,e3⟩:=h0;cases h;rw [<- e1,<- e2,<- e3] at h2;intro pins s σ H Q I q;rcases XH (FX (fun i o z=>BH z) (fun i z=>As z) q) with q | q
  ·exact h1 pins s σ H Q I q
  ·exact h2 pins s σ H Q I q
 ·cases h
def fJ (r:Rec) (C:Cf) (Γ:Gm) (o:Expr) (es:List Expr):List MethE->Option CE
 | []=>none
 | [en]=>cz r C Γ en o es
 | en::en2::_=>(cz r C Γ en o es).bind fun c1=>(cz r C Γ en2 o es).bind fun c2=>ZS c1 c2
def Ms (r:Rec) (C:Cf) (Γ:Gm) (f:Expr) (es:List Expr) (pos:Pos):Option CE:=match f with
  | .Name x _=>if Ic C.sc x && Qe x then (match C.fs.find? fun p=>p.1 == x with
      | some p=>ZY r C Γ p.2 es
      | none=>(C.T.calls.find? fun e=>e.x == x && e.n == es.length).bind fun en=>if C.bl.contains x then Rw r C Γ en es else none) else none
  | .Attribute o name apos=>if apos.endLine == pos.line then (match C.T.muts.find? fun e=>e.x == name && e.n == es.length with
      | some en=>(Uc C o).bind fun i=>ZZ r C Γ en i es
      | none=>fJ r C Γ o es (C.T.meths.filter fun e=>e.x == name && e.n == es.length)) else none
  | _=>none
theorem SG {r:Rec} (R:OkR r) {C:Cf} {X:Cx} {Γ:Gm} {f:Expr} {es:List Expr} {pos:Pos} {c:CE} (ok:Cok C X) (h:Ms r C Γ f es pos=some c):PE X (.Call f es [] pos) (tE X.K Γ c.o c.Γ c.js c.f):=by
  cases f with
  | Name x p =>
    simp only [Ms] at h;split at h
    · rename_i h0;rw [Bool.and_eq_true] at h0;split at h
      · rename_i p' hp;have e:p'.1=x:=by simpa using List.find?_some hp
        have hm:=List.mem_of_find?_eq_some hp;exact VZ R ok (s:=p'.2) (by rw [<- e];exact hm) (Bj ok h0.1) h0.2 h
      · replace h:=bind_some' h;obtain ⟨en,e1,h⟩:=h;split at h
        · rename_i hb;have e:=List.find?_some e1;simp only [Bool.and_eq_true,beq_iff_eq] at e;obtain ⟨rfl,_⟩:=e;exact Rv R ok (List.contains_iff_mem.mp hb) (Bj ok h0.1) h0.2 h
        · cases h
    · cases h
  | Attribute o name apos =>
    simp only [Ms] at h;split at h
    · rename_i hl;split at h
      · rename_i en he;have e:=List.find?_some he;simp only [Bool.and_eq_true,beq_iff_eq] at e;obtain ⟨rfl,_⟩:=e;obtain ⟨i,e1,h⟩:=bind_some' h;exact Vb R ok e1 hl h
      · have hm:∀ en∈C.T.meths.filter fun e=>e.x == name && e.n == es.length,en.x=name/\en.n=es.length:=fun en he=>by
          have:=(List.mem_filter.mp he).2;simp only [Bool.and_eq_true,beq_iff_eq] at this;exact this
        revert h hm
        generalize (C.T.meths.filter fun e=>e.x == name && e.n == es.length)=L;intro h hm
        match L,hm,h with
        | [],hm,h=>cases h
        | [en],hm,h =>
          obtain ⟨rfl,e2⟩:=hm en List.mem_cons_self;exact Lj R ok hl e2 h
        | en::en2::_,hm,h =>
          obtain ⟨c1,e1,h⟩:=bind_some' h;obtain ⟨c2,e2,h⟩:=bind_some' h;obtain ⟨q1,q2⟩:=hm en List.mem_cons_self;obtain ⟨q3,q4⟩:=hm en2 (List.mem_cons_of_mem _ List.mem_cons_self);have p1:=Lj (pos:=pos) (apos:=apos) R ok hl q2 e1;have p2:=Lj (pos:=pos) (apos:=apos) R ok hl q4 e2;rw [q1] at p1;rw [q3] at p2;exact VT p1 p2 h
    · cases h
  | _=>cases h
def Iv (C:Cf) (x:Str):Option Nat:=if Qe x then (match C.sc.names.lookup x with
 | some .local=>CU C.N x
 | some .cell=>if C.fn x then CU C.N x else none
 | _=>none) else none
theorem Fe {C:Cf} {X:Cx} {x:Str} {i:Nat} (ok:Cok C X) (h:Iv C x=some i):X.N[i]?=some x/\Loc X.env.scope x/\(X.fn x=true\/X.env.scope.names.lookup x=some .local):=by
 unfold Iv at h;split at h
 ·split at h
  ·rename_i e;rw [ok.N,ok.sc];exact ⟨BW h,.inl e,.inr e⟩
  ·rename_i e;split at h
   ·rename_i hf;rw [ok.N,ok.sc];exact ⟨BW h,.inr e,.inl (ok.fn x hf)⟩
   ·cases h
  ·cases h
 ·cases h
theorem Mv {C:Cf} {X:Cx} {x:Str} {i:Nat} {pos:Pos} (ok:Cok C X) (h:Iv C x=some i):PG X (.Name x pos) (Cv i):=by
 obtain ⟨h1,h2,h3⟩:=Fe ok h;exact UG ok.nd h1 h2 h3
def aN (C:Cf):List Expr->Option (List Nat)
 | []=>some []
 | .Name x _::es=>(Iv C x).bind fun i=>(aN C es).bind fun J=>some (i::J)
 | _::_=>none
theorem PC {C:Cf} {X:Cx} (ok:Cok C X):∀ {es:List Expr} {J:List Nat},aN C es=some J->aH X es (Dk J)/\(assignEach es X.env).length=J.length/\(assignEach es X.env).findIdx? (·.1)=none
 | [],J,h=>by cases h;exact ⟨UF,rfl,rfl⟩
 | e::es,J,h=>by
  cases e with
  | Name x pos =>
   obtain ⟨i,e1,h⟩:=bind_some' (show (Iv C x).bind (fun i=>(aN C es).bind fun J=>some (i::J))=some J from h);obtain ⟨J',e2,h⟩:=bind_some' h;cases h;obtain ⟨h1,h2,h3⟩:=PC ok e2;refine ⟨QR (Mv ok e1) h1 rfl,?_,?_⟩
   ·show (assignEach es X.env).length+1=_;rw [h2];rfl
   ·show List.findIdx? (·.1) ((false,assign (.Name x pos) X.env)::assignEach es X.env)=none;rw [List.findIdx?_cons,h3];rfl
  | _=>cases h
structure CG:Type 1 where
 J:List Nat
 f:Tg
 g:W.Frag->TG
 Γ:Gm->Gm
def cG (C:Cf) (e:Expr):Option CG:=match e with
 | .Name x _=>(Iv C x).map fun i=>⟨[i],aO i,fun _=>Cv i,fun Γ=>Γ.set i (some 0)⟩
 | .Tuple es _ _=>(aN C es).map fun J=>⟨J,fo J,fun K=>cL K J.length (Dk J),fun Γ=>Xb Γ J (some 0)⟩
 | _=>none
theorem FN {C:Cf} {X:Cx} {e:Expr} {c:CG} (ok:Cok C X) (h:cG C e=some c):PG X e (c.g X.K)/\(∀ js,(∀ i∈c.J,i∈js)->Oq js (c.g X.K))/\∀ {K Γ},c.J.all (fun i=>decide (i < Γ.length))=true->Ls K Γ (c.Γ Γ) c.J (c.g K) c.f:=by
 cases e with
 | Name x pos =>
  cases q:Iv C x with
  | none=>simp only [cG,q] at h;cases h
  | some i =>
   simp only [cG,q] at h;cases h;exact ⟨Mv ok q,fun js hj=>Qx (hj i (List.mem_singleton_self _)),fun h=>TH (by simpa using h)⟩
 | Tuple es k pos =>
  cases q:aN C es with
  | none=>simp only [cG,q] at h;cases h
  | some J =>
   simp only [cG,q] at h;cases h;obtain ⟨h1,h2,h3⟩:=PC ok q;exact ⟨PG.or (YC ok.calm h1 h2 h3) (YE ok.calm h1 h2 h3),fun js hj=>Yz (Uj (Dj J hj)) (Uk (Dj J hj)),fun h=>PD (by simpa using h)⟩
 | _=>cases h
def fH (r:Rec) (C:Cf) (Γ:Gm) (en:SrcE) (es:List Expr):Option CI:=(r.A C Γ [] es).bind fun c=>some ⟨c.Γ,c.js,Wf en.f (AM c.as)⟩
def ZV (r:Rec) (C:Cf) (Γ:Gm) (e:Expr):Option CI:=(r.E C Γ e).bind fun c=>some ⟨c.Γ,c.js,Mh c.f⟩
def PY (r:Rec) (C:Cf) (Γ:Gm) (tt:Bool) (e:Expr):Option CI:=match e with
  | .Call (.Name x _) es [] _=>(match C.T.srcs.find? fun en=>en.x == x && en.n == es.length && (!en.tt || tt) with
      | some en=>if Ic C.sc x && C.bl.contains x && (C.fs.find? fun p=>p.1 == x).isNone then fH r C Γ en es else none
      | none=>ZV r C Γ e)
  | e=>ZV r C Γ e
theorem PX {r:Rec} (R:OkR r) {C:Cf} {X:Cx} {Γ:Gm} {e:Expr} {c:CI} (tg:Expr) (ok:Cok C X) (h:PY r C Γ (Jq tg) e=some c):PI X tg e (tI X.K Γ c.Γ c.js c.f):=by
 have seq:ZV r C Γ e=some c->PI X tg e (tI X.K Γ c.Γ c.js c.f):=fun h=>by
  obtain ⟨c1,e1,h⟩:=bind_some' h;cases h;exact cF (Cd (R.E ok e1))
 unfold PY at h;split at h
 ·rename_i x p es pos;split at h
  ·rename_i en he;split at h
   ·rename_i h0;simp only [Bool.and_eq_true] at h0;have e:=List.find?_some he;simp only [Bool.and_eq_true,beq_iff_eq] at e;obtain ⟨⟨rfl,hn⟩,htt⟩:=e;obtain ⟨c1,e1,h⟩:=bind_some' h;cases h;obtain ⟨a1,a2,a3,a4,a5⟩:=R.A ok e1;obtain ⟨rr,q1,q2⟩:=en.ok X ok.gx;exact PI.imp (q2 tg es p pos _ (fun z=>by rw [z] at htt;simpa using htt) hn.symm a4 (Bj ok h0.1.1) (ok.bl _ (List.contains_iff_mem.mp h0.1.2)) a1) fun _ _ _ h=>TR q1 a2 (a5 rfl) h
   ·cases h
  ·exact seq h
 ·exact seq h
def GO (scope sc:Scope):Scope:={ scope with names:=scope.names.map fun (n,k)=>if (k == .free && sc.kind == .function && sc.names.lookup n == some .cell) then (n,.cell) else (n,k) }
def Cf.inner (C:Cf) (scope:Scope):Cf:={ C with sc:=GO scope C.sc,fn:=AL scope }
theorem Cok.inner {C:Cf} {X:Cx} (ok:Cok C X) (scope:Scope) (cl:List (Str×Addr)) (a:Addr) (s:Shared) (H:Hp) (fp:List Addr):Cok (C.inner scope) (X.inner scope cl a s H fp) where
 N:=ok.N
 sc:=by
  show relabel scope X.env=GO scope C.sc;unfold relabel GO Env.kindOf;rw [ok.sc]
 nd:=ok.nd
 calm:=ok.calm
 fn:=fun _ h=>h
 room:=ok.room
 fs:=ok.fs
 cs:=ok.cs
 bl:=ok.bl
 xe:=rfl
noncomputable def LF (N:List Str) (scope:Scope):List Nat:=(List.range N.length).filter fun i=>match N[i]? with
 | some x=>(match scope.names.lookup x with | some .local=>true | some .cell=>true | _=>false)
 | none=>false
structure CC:Type 1 where
 t:CG
 c:CT
 e:CE
def JF (r:Rec) (C:Cf) (Γl:Gm) (tg:CG) (ifs:List Expr) (elt:Expr):Option CC:=if tg.J.all (fun i=>decide (i < Γl.length)) then (match ifs with
 | []=>some (CT.mk (tg.Γ Γl) [] Cw)
 | [c]=>r.T C (tg.Γ Γl) c
 | _=>none).bind fun c=>(r.E C c.Γ elt).bind fun e=>some ⟨tg,c,e⟩ else none
def ZG (r:Rec) (C:Cf) (tg:CG) (ifs:List Expr) (elt:Expr):Nat->Gm->Option (Gm×CC)
 | 0,_=>none
 | n+1,Γl=>(JF r C Γl tg ifs elt).bind fun x=>if BP Γl x.c.Γ && BP Γl x.e.Γ then some (Γl,x) else ZG r C tg ifs elt n (BV Γl (BV x.c.Γ x.e.Γ))
def Ht (r:Rec) (C:Cf) (Γ:Gm) (elt:Expr) (gens:List Comprehension) (scope:Scope):Option CE:=match gens with
  | [⟨tg,iter,ifs,0⟩]=>(match iter with | .Set _ _ _=>none | _=>r.I C Γ (Jq tg) iter).bind fun s=>let jx:=LF C.N scope;if innerOk C.N C.sc scope jx then (cG (C.inner scope) tg).bind fun t=>(ZG r (C.inner scope) t ifs elt 4 (KQ jx s.Γ)).bind fun p =>
      let J:=Au p.1 (t.J++(p.2.c.js++p.2.e.js))
      if BP p.1 (KQ jx s.Γ) && t.J.all jx.contains then some ⟨1,JO jx s.Γ p.1,s.js++(t.J++(p.2.c.js++p.2.e.js)),match J,ifs with
        | [],[]=>RH s.f t.f p.2.e.f
        | [],_=>RI s.f t.f p.2.c.f p.2.e.f
        | J,[]=>Mj s.f t.f J p.2.e.f
        | J,_=>Mi s.f t.f J p.2.c.f p.2.e.f⟩ else none else none
  | _=>none
theorem Ii {r:Rec} {C:Cf} {tg:CG} {ifs:List Expr} {elt:Expr}:∀ {n:Nat} {Γ:Gm} {p:Gm×CC},ZG r C tg ifs elt n Γ=some p->JF r C p.1 tg ifs elt=some p.2/\BP p.1 p.2.c.Γ=true/\BP p.1 p.2.e.Γ=true
 | 0,_,_,h=>by cases h
 | n+1,Γ,p,h=>by
  obtain ⟨x,e1,h⟩:=bind_some' (show (JF r C Γ tg ifs elt).bind _=some p from h);split at h
  ·rename_i hw;rw [Bool.and_eq_true] at hw;cases h;exact ⟨e1,hw.1,hw.2⟩
  ·exact Ii h
theorem QZ {X:Cx} {Γ:Gm}:Sv X [] (tT X.K Γ Γ [] Cw):=fun pins s σ H Q I h=>by
 obtain ⟨g,m,P,r,R,k,res,e,q⟩:=h;exact wpAny_tests_nil ⟨H,I,q true m g P H e BU.refl Step.refl r⟩
theorem KN {r:Rec} (R:OkR r) {C:Cf} {X:Cx} {Γ:Gm} {elt:Expr} {gens:List Comprehension} {scope:Scope} {pos:Pos} {c:CE} (ok:Cok C X) (h:Ht r C Γ elt gens scope=some c):PE X (.ListComp elt gens scope pos) (tE X.K Γ c.o c.Γ c.js c.f):=by
 unfold Ht at h;split at h
 ·rename_i tg iter ifs;obtain ⟨s,e1,h⟩:=bind_some' h;simp only at h;split at h
  ·rename_i hin;obtain ⟨t,e2,h⟩:=bind_some' h;obtain ⟨p,e3,h⟩:=bind_some' h;split at h
   ·rename_i hw;rw [Bool.and_eq_true] at hw;cases h;obtain ⟨f1,f2,f3⟩:=Ii e3;unfold JF at f1;split at f1
    ·rename_i hj;obtain ⟨ct,f1a,f1⟩:=bind_some' f1;obtain ⟨ce,f1b,f1⟩:=bind_some' f1;have ep:p.2=⟨t,ct,ce⟩:=(Option.some.inj f1).symm;have hs:∀ x,foldedSetIterable iter X.env x=pure x:=fun x=>by cases iter<;>first | rfl | (cases e1)
     have hI:r.I C Γ (Jq tg) iter=some s:=by cases iter<;>first | exact e1 | (cases e1)
     have hi:=R.I tg ok hI;have okI:=fun cl a s H fp=>ok.inner scope cl a s H fp
     have hg:∀ cl a s H fp,PG (X.inner scope cl a s H fp) tg (t.g X.K):=fun cl a s H fp=>(FN (okI cl a s H fp) e2).1
     have hsx:∀ i∈t.J,i∈LF C.N scope:=fun i hi=>List.contains_iff_mem.mp ((List.all_eq_true.mp hw.2) i hi)
     have hgo:Oq (LF C.N scope) (t.g X.K):=(FN (okI [] 0 X.s₀ X.H₀ []) e2).2.1 _ hsx;have ht:Ls X.K p.1 (t.Γ p.1) t.J (t.g X.K) t.f:=(FN (okI [] 0 X.s₀ X.H₀ []) e2).2.2 hj;have he:∀ cl a s H fp,PE (X.inner scope cl a s H fp) elt (tE X.K ct.Γ 0 ce.Γ ce.js ce.f):=fun cl a s H fp=>Cd (R.E (okI cl a s H fp) f1b)
     have hin':innerOk X.N X.env.scope scope (LF C.N scope)=true:=by rw [ok.N,ok.sc];exact hin
     rw [ep] at f2 f3 ⊢;simp only at f2 f3 ⊢;cases ifs with
     | nil =>
      cases f1a;have hc:∀ cl a s H fp,Sv (X.inner scope cl a s H fp) [] (tT X.K (t.Γ p.1) (t.Γ p.1) [] Cw):=fun cl a s H fp=>QZ
      have base:=Jd (pos:=pos) hin' ok.calm hi hg hgo hc he hs;cases hJ:Au p.1 (t.J++([]++ce.js)) with
      | nil=>exact PE.imp base fun σ H Q h=>Jj ht hw.1 f3 f2 hsx hJ.symm h
      | cons j J=>exact PE.imp base fun σ H Q h=>Hq ht hw.1 f3 f2 hsx hJ.symm h
     | cons i1 ifs =>
      cases ifs with
      | nil =>
       have hc:∀ cl a s H fp,Sv (X.inner scope cl a s H fp) [i1] (tT X.K (t.Γ p.1) ct.Γ ct.js ct.f):=fun cl a s H fp=>.one (R.T (okI cl a s H fp) f1a)
       have base:=Jd (pos:=pos) hin' ok.calm hi hg hgo hc he hs;cases hJ:Au p.1 (t.J++(ct.js++ce.js)) with
       | nil=>exact PE.imp base fun σ H Q h=>Jl ht hw.1 f3 f2 hsx hJ.symm h
       | cons j J=>exact PE.imp base fun σ H Q h=>Ho ht hw.1 f3 f2 hsx hJ.symm h
      | cons _ _=>cases f1a
    ·cases f1
   ·cases h
  ·cases h
 ·cases h
end R
namespace Q
open PySem L2
section
end
section
end
section
end
section
end
section
end
section
end
section
end
section
end
section
end
section
end
section
end
section
end
section
end
section
end
section
end
end Q
namespace HT
open PySem PyProof.Rows
section
variable {prog:Program} {w:World} {A:Around} {E:Value->Shared->Prop} {s:Shared}
theorem Ju {α β:Type} {f g:α->Option β}:∀ {l:List α},(∀ a∈l,f a=g a)->l.filterMap f=l.filterMap g
 | [],_=>rfl
 | a::l,h=>by
  rw [List.filterMap_cons,List.filterMap_cons,h a List.mem_cons_self,Ju fun b hb=>h b (List.mem_cons_of_mem _ hb)]
theorem KR (n:Nat):Builtin.Slice.sliceAdjust none none (-1) (n:Int)=((n:Int) - 1,-1):=by
 unfold Builtin.Slice.sliceAdjust;rfl
theorem Jb (n:Nat):Builtin.Slice.slicePlaces ((n:Int) - 1) (-1) (-1)=n:=by
 unfold Builtin.Slice.slicePlaces;have h1:¬ ((-1:Int) > 0):=by omega
 simp only [h1,if_false];have h2:(-(-1:Int))=1:=by decide
 simp only [h2,Int.ediv_one];split<;>omega
theorem NU (xs:Array Value):((List.range xs.size).filterMap fun (m:Nat)=>xs[((xs.size:Int) - 1+(m:Int) * (-1)).toNat]?).toArray=xs.toList.reverse.toArray:=by
 have e:(List.range xs.size).filterMap (fun (m:Nat)=>xs[((xs.size:Int) - 1+(m:Int) * (-1)).toNat]?)=((List.range xs.size).map fun k=>xs.size - 1 - k).filterMap (xs[·]?):=by
  rw [List.filterMap_map];refine Ju fun m hm=>?_
  have hm:=List.mem_range.mp hm;have:((xs.size:Int) - 1+(m:Int) * (-1)).toNat=xs.size - 1 - m:=by omega
  show _=xs[xs.size - 1 - m]?;rw [this]
 rw [e,W.krv_range,List.filterMap_reverse,W.krv_all]
theorem getItem_tuple_back {t sl:Addr} {items:Array Value} {k:Tok} {Q:Value->Shared->Prop} (ht:IsTup s.heap t items) (hs:s.heap.IsSliceOf sl .none .none (.int (-1) k))
    (h:Q (.ref s.heap.objs.size) { s with heap:=s.heap.push { cls:=.type "tuple", data:=.seq items.toList.reverse.toArray } })
    (hsz:items.size<=sizeLine):wpAny (model prog w) A (getItem (.ref t) (.ref sl)) Q E s:=by
  have htake:sizeOk (.seq items.toList.reverse.toArray):=by
    show items.toList.reverse.toArray.size<=sizeLine;rw [List.size_toArray,List.length_reverse,Array.length_toList];exact hsz
  obtain ⟨os,hos,hcs,hds⟩:=id hs
  have hTs:s.TypeIs (.ref sl) "slice" := ⟨os,hos,hcs⟩
  unfold getItem
  try with_reducible refine wpAny_holding ?_
  first | refine wpAny_bind (wpAny_pure ?_) | skip
  refine wpAny_bind (wpAny_sequenceKey ht.typeIs (by decide) ?_)
  refine wpAny_bind (wpAny_callSpecial?_slot (name:=Str.ofString "__getitem__") ht.typeIs PyProof.Rows.slot_tuple_getitem
    (wpAny_call_entry PyProof.Rows.slot_tuple_getitem ht.typeIs entry_tuple_getitem ?_ (args_tuple_getitem _ _)))
  show wpAny _ _ (Builtin.Tuple.tupleItemsOf (.ref t) >>= _) _ _ s;refine wpAny_bind (tupleItemsOf_ ht ?_);refine wpAny_bind (wpAny_typeOf hTs ?_);rw [if_pos (by decide)];have ap:∀ {A':Around} {Q:Int×Int×Nat->Shared->Prop},Q ((items.size:Int) - 1,-1,items.size) s->wpAny (model prog w) A' (Builtin.Slice.sliceApplied (.ref sl) (pure (items.size:Int))) Q E s:=fun {A' Q} h=>by
    unfold Builtin.Slice.sliceApplied Builtin.Slice.sliceFields;refine wpAny_bind (wpAny_bind (wpAny_field hos hds (x:=.none) rfl (wpAny_bind (wpAny_field hos hds (x:=.none) rfl (wpAny_bind (wpAny_field hos hds (x:=.int (-1) k) rfl (wpAny_pure ?_)))))));refine wpAny_bind (Dd (.int (-1) k) ?_);show wpAny _ _ (if ((-1:Int) == 0)=true then _ else _) _ _ s;rw [if_neg (by decide)];refine wpAny_bind (slicePart_none (wpAny_bind (slicePart_none (wpAny_bind (wpAny_pure ?_)))));show wpAny _ _ (match Builtin.Slice.sliceAdjust none none (-1) (items.size:Int) with | (lo,hi)=>pure (lo,(-1:Int),Builtin.Slice.slicePlaces lo hi (-1))) _ _ s;rw [KR];show wpAny _ _ (pure (((items.size:Int) - 1),(-1:Int),Builtin.Slice.slicePlaces ((items.size:Int) - 1) (-1) (-1))) _ _ s;rw [Jb];exact wpAny_pure h
  refine wpAny_bind (ap ?_);have hno:¬ ((((items.size:Int) - 1) == 0 && (-1:Int) == 1 && items.size == items.size)=true):=by
    intro q;rw [Bool.and_eq_true,Bool.and_eq_true] at q;exact absurd q.1.2 (by decide)
  show wpAny _ _ (if (((items.size:Int) - 1) == 0 && (-1:Int) == 1 && items.size == items.size)=true then _ else _) _ _ s;rw [if_neg hno,NU]
  first
    | exact wpAny_bind (m:=Builtin.Tuple.tupleExact _) (wpAny_newObj_type (wpAny_pure ⟨_,rfl,wpAny_pure h⟩) htake)
    | exact wpAny_bind (m:=Builtin.Tuple.tupleExact _) (wpAny_newObj_type (wpAny_bind (wpAny_pure (wpAny_pure ⟨_,rfl,wpAny_pure h⟩))) htake)
    | exact wpAny_bind (wpAny_bind (m:=Builtin.Tuple.tupleExact _) (wpAny_newObj_type (wpAny_pure (wpAny_pure ⟨_,rfl,wpAny_pure h⟩)) htake))
    | exact wpAny_bind (wpAny_bind (m:=Builtin.Tuple.tupleExact _) (wpAny_newObj_type (wpAny_pure ⟨_,rfl,wpAny_pure h⟩) htake))
end
end HT
namespace L2
open PySem PySem.Spec PyProof.Rows
section
variable {X:Cx} {e st:Expr} {te ts:TE} {pos p2:Pos}
abbrev aQ (K:W.Frag) (te ts:TE):TE:=fun σ H Q=>te σ H fun x H1=>ts σ H1 fun y H2=>∃ a xs b,x=.ref a/\y=.int (-1)/\gM K H2 a xs b/\∀ p,H2 p=none->Q (.ref p) (upd H2 p (bif b then .tup xs.reverse else .lst xs.reverse))
theorem UH (K:W.Frag) (he:PE X e te) (hst:PE X st ts) (hK:X.K=K:=by rfl) (hsub:∀ o i,∃ ops,subscripted (.Slice none none (some st) p2) false o i=operate ops (getItem o i):=by intro o i;exact ⟨_,by with_unfolding_all rfl⟩):PE X (.Subscript e (.Slice none none (some st) p2) pos) (aQ K te ts):=by
 subst hK;intro pins s σ H Q I h;refine Subscript_ (Al (he pins s σ H _ I h) fun v s1 ⟨x,H1,I1,r1,q1⟩=>?_);refine wpAny_Slice ?_;rw [evalPart_none];refine wpAny_pure ?_;refine wpAny_pure ?_;rw [evalPart_some];refine Al (hst pins s1 σ H1 _ I1 q1) fun vs s3 ⟨y,H3,I3,r3,q3⟩=>?_
 obtain ⟨a,xs,b,rfl,rfl,hx,q⟩:=q3;cases r1;obtain ⟨t,rfl⟩:=r3
 have I4:Inv X pins σ H3 { s3 with heap:=s3.heap.push { cls:=.type "slice", data:=.fields #[.none,.none,.int (-1) t] } }:=I3.kept (t':=s3.toks) fun b ob q=>Heap.get?_push_of_some _ q
 show wpAny (model X.prog X.w) X.A (subscriptTail e (.Slice none none (some st) p2) (.ref a) (.ref s3.heap.objs.size)) (EP X pins σ Q) X.xe { s3 with heap:=s3.heap.push { cls:=.type "slice", data:=.fields #[.none,.none,.int (-1) t] } }
 obtain ⟨ops,hops⟩:=hsub (.ref a) (.ref s3.heap.objs.size);cases b with
 | false =>
  obtain ⟨its,r,ht,hz⟩:=I4.list hx;have hlen:=r.length;refine tail_any (ops:=ops) ht.isList.typeIs slot_list_getitem.lookup ?_ hops;refine wpAny_getItem_list_slice ht.isList (Heap.IsSliceOf.new ..) .none .none (.int (-1) t) (by decide) ?_ (by rw [List.size_toArray];omega);rw [W.krv_pick];rw [show its.toArray.toList.reverse=its.reverse by simp]
  have I5:=I4.laid (t':=s3.toks) (o:=.lst xs.reverse) (h':=(s3.heap.push { cls:=.type "slice", data:=.fields #[.none,.none,.int (-1) t] }).push { cls:=.type "list", data:=.seq its.reverse.toArray }) (fun b ob q=>Heap.get?_push_of_some _ q) (Nat.le_refl _) ⟨by rw [List.length_reverse];exact hz,its.reverse,0,Dp r,Heap.get?_push_size _ rfl⟩
  exact ⟨.ref _,_,I5,rfl,q _ (I4.hok.fresh (Nat.le_refl _))⟩
 | true =>
  obtain ⟨its,r,ht,hz⟩:=I4.tuple hx;have hlen:=r.length;refine tail_any (ops:=ops) ht.typeIs PyProof.Rows.slot_tuple_getitem.lookup ?_ hops;refine HT.getItem_tuple_back ht (Heap.IsSliceOf.new ..) ?_ (by rw [List.size_toArray];omega);rw [show its.toArray.toList.reverse=its.reverse by simp]
  have I5:=I4.laid (t':=s3.toks) (o:=.tup xs.reverse) (h':=(s3.heap.push { cls:=.type "slice", data:=.fields #[.none,.none,.int (-1) t] }).push { cls:=.type "tuple", data:=.seq its.reverse.toArray }) (fun b ob q=>Heap.get?_push_of_some _ q) (Nat.le_refl _) ⟨by rw [List.length_reverse];exact hz,its.reverse,Dp r,HC.new _ _⟩
  exact ⟨.ref _,_,I5,rfl,q _ (I4.hok.fresh (Nat.le_refl _))⟩
end
end L2
namespace Q
open PySem L2
section
end
end Q
namespace R
open PySem L2
noncomputable def Yi (f:Expr) (es:List Expr):Option (List Expr):=match f,es with
 | .Name x _,[.Call (.Name y _) (a::es) [] _]=>if x == ("list" : Str) && y == ("range" : Str) then some (a::es) else none
 | _,_=>none
theorem Nk {f:Expr} {es as:List Expr} (h:Yi f es=some as):∃ p a es' p2 pos2,f=.Name "list" p/\as=a::es'/\es=[.Call (.Name "range" p2) (a::es') [] pos2]:=by
 unfold Yi at h;split at h
 ·split at h
  ·rename_i e;rw [Bool.and_eq_true,beq_iff_eq,beq_iff_eq] at e;obtain ⟨rfl,rfl⟩:=e;cases h;exact ⟨_,_,_,_,_,rfl,rfl,rfl⟩
  ·cases h
 ·cases h
def gI (r:Rec) (C:Cf) (Γ:Gm) (as:List Expr):Option CE:=if Ic C.sc "list" && Ic C.sc "range" && C.bl.contains "list" && C.bl.contains "range" then (r.A C Γ (List.replicate as.length true) as).bind fun c=>some ⟨1,c.Γ,c.js,Cy C.T.lr (AM c.as)⟩ else none
noncomputable def Yh (f:Expr) (es:List Expr):Option Expr:=match f,es with
 | .Name x _,[.Call (.Name y _) [a] [] _]=>if x == ("list" : Str) && y == ("reversed" : Str) then some a else none
 | _,_=>none
theorem Nj {f a:Expr} {es:List Expr} (h:Yh f es=some a):∃ p p2 pos2,f=.Name "list" p/\es=[.Call (.Name "reversed" p2) [a] [] pos2]:=by
 unfold Yh at h;split at h
 ·split at h
  ·rename_i e;rw [Bool.and_eq_true,beq_iff_eq,beq_iff_eq] at e;obtain ⟨rfl,rfl⟩:=e;cases h;exact ⟨_,_,_,rfl,rfl⟩
  ·cases h
 ·cases h
def fK (r:Rec) (C:Cf) (Γ:Gm) (a:Expr):Option CE:=if Ic C.sc "list" && Ic C.sc "reversed" && C.bl.contains "list" && C.bl.contains "reversed" && Ax a then (Od r C Γ a).bind fun x=>some ⟨1,x.Γ,x.js++[],Cy (one C.T.lv) (AM [x.a])⟩ else none
theorem Za {r:Rec} (R:OkR r) {C:Cf} {X:Cx} {Γ:Gm} {a:Expr} {p p2 pos2 pos:Pos} {c:CE} (ok:Cok C X) (h:fK r C Γ a=some c):PE X (.Call (.Name "list" p) [.Call (.Name "reversed" p2) [a] [] pos2] [] pos) (tE X.K Γ c.o c.Γ c.js c.f):=by
 unfold fK at h;split at h
 ·rename_i hg;simp only [Bool.and_eq_true] at hg;obtain ⟨⟨⟨⟨g1,g2⟩,g3⟩,g4⟩,g5⟩:=hg;obtain ⟨x,e1,h⟩:=bind_some' h;cases h;obtain ⟨a1,a2⟩:=Ff R ok e1;exact PE.imp (LD ok.calm (Bj ok g1) (ok.bl _ (List.contains_iff_mem.mp g3)) (Bj ok g2) (ok.bl _ (List.contains_iff_mem.mp g4)) a1 rfl rfl (AI g5) rfl) fun _ _ _ h=>Be (C.T.lvok X ok.gx) a2 h
 ·cases h
def Lm (r:Rec) (C:Cf) (Γ:Gm) (f:Expr) (es:List Expr) (pos:Pos):Option CE:=match Yi f es with
 | some as=>gI r C Γ as
 | none=>match Yh f es with
  | some a=>fK r C Γ a
  | none=>Ms r C Γ f es pos
theorem OX {r:Rec} (R:OkR r) {C:Cf} {X:Cx} {Γ:Gm} {f:Expr} {es:List Expr} {pos:Pos} {c:CE} (ok:Cok C X) (h:Lm r C Γ f es pos=some c):PE X (.Call f es [] pos) (tE X.K Γ c.o c.Γ c.js c.f):=by
 unfold Lm at h;split at h
 ·rename_i as e;obtain ⟨p,a,es',p2,pos2,rfl,rfl,rfl⟩:=Nk e;unfold gI at h;split at h
  ·rename_i hg;simp only [Bool.and_eq_true] at hg;obtain ⟨⟨⟨g1,g2⟩,g3⟩,g4⟩:=hg;obtain ⟨c1,e1,h⟩:=bind_some' h;cases h;obtain ⟨a1,a2,a3,a4,_⟩:=R.A ok e1;rw [List.all_cons,Bool.and_eq_true] at a4;exact PE.imp (LC ok.calm (Bj ok g1) (ok.bl _ (List.contains_iff_mem.mp g3)) (Bj ok g2) (ok.bl _ (List.contains_iff_mem.mp g4)) a1 rfl rfl (AI a4.1) (BO a4.2)) fun _ _ _ h=>Be (C.T.lrok X ok.gx) a2 h
  ·cases h
 ·split at h
  ·rename_i a e;obtain ⟨p,p2,pos2,rfl,rfl⟩:=Nj e;exact Za R ok h
  ·exact SG R ok h
noncomputable def cC:Expr->Bool
 | .UnaryOp .USub (.Constant (.int 1) _ _) _=>true
 | _=>false
def ZW (r:Rec) (C:Cf) (Γ:Gm) (a st:Expr):Option CE:=if cC st then (IA r C Γ a st).bind fun p=>some ⟨1,p.2.Γ,jj p,Cy (two C.T.rv) (AM [p.1.a,p.2.a])⟩ else none
theorem VW {r:Rec} (R:OkR r) {C:Cf} {X:Cx} {Γ:Gm} {a st:Expr} {p2 pos:Pos} {c:CE} (ok:Cok C X) (h:ZW r C Γ a st=some c):PE X (.Subscript a (.Slice none none (some st) p2) pos) (tE X.K Γ c.o c.Γ c.js c.f):=by
 unfold ZW at h;split at h
 ·rename_i hm;obtain ⟨p,e1,h⟩:=bind_some' h;cases h;obtain ⟨h1,h2,h3⟩:=ET R ok e1;unfold cC at hm;split at hm
  ·exact PE.imp (UH X.K h1 h2 rfl (by intro o i;exact ⟨_,by with_unfolding_all rfl⟩)) fun _ _ _ h=>Be (C.T.rvok X ok.gx) h3 h
  ·cases hm
 ·cases h
def HL (r:Rec) (C:Cf) (Γ:Gm) (e:Expr):Option CE:=match e with
 | .Constant k _ _=>SD Γ k
 | .Name x _=>SB C Γ x
 | .BinOp a op b _=>dF r C Γ a op b
 | .UnaryOp .USub a _=>cy r C Γ a
 | .UnaryOp .Not a _=>cx r C Γ a
 | .Compare a [op] [b] _=>(SE r C Γ a op b).map gK
 | .Compare a [op,op'] [b,c] _=>(SF r C Γ a op b op' c).map gK
 | .BoolOp op vs pos=>Pd r C Γ op vs pos
 | .IfExp c a b _=>dD r C Γ c a b
 | .Call f es [] pos=>Lm r C Γ f es pos
 | .Tuple es _ _=>cv r C Γ es
 | .List es _=>dC r C Γ es
 | .Dict [] [] _=>some ⟨1,Γ,[],RE⟩
 | .Subscript a (.Slice lo hi none _) _=>gH r C Γ a lo hi
 | .Subscript a (.Slice none none (some st) _) _=>ZW r C Γ a st
 | .Subscript a b _=>if GR b then fL r C Γ a b else none
 | .ListComp e gens sc _=>Ht r C Γ e gens sc
 | _=>none
theorem PZ {r:Rec} (R:OkR r) {C:Cf} {X:Cx} {Γ:Gm} {e:Expr} {c:CE} (ok:Cok C X) (h:HL r C Γ e=some c):PE X e (tE X.K Γ c.o c.Γ c.js c.f):=by
 match e,h with
 | .Constant k j pos,h=>exact OV h
 | .Name x pos,h=>exact SA ok h
 | .BinOp a op b pos,h=>exact Vj R ok h
 | .UnaryOp op a pos,h =>
  cases op with
  | USub=>exact Va R ok h
  | Not =>
   obtain ⟨c1,e1,h⟩:=bind_some' (show (r.E C Γ a).bind _=some c from h);cases h;exact PE.imp (YI (Cd (R.E ok e1))) fun _ _ _ h=>XI h
  | _=>cases h
 | .Compare a ops bs pos,h =>
  match ops,bs,h with
  | [op],[b],h =>
   cases q:SE r C Γ a op b with
   | none=>simp only [HL,q] at h;cases h
   | some t =>
    simp only [HL,q] at h;cases h;exact (Mq R ok q).2 1
  | [op,op'],[b,d],h =>
   cases q:SF r C Γ a op b op' d with
   | none=>simp only [HL,q] at h;cases h
   | some t =>
    simp only [HL,q] at h;cases h;exact (Mr R ok q).2 1
  | [],_,h=>cases h
  | [_],[],h=>cases h
  | [_],_::_::_,h=>cases h
  | [_,_],[],h=>cases h
  | [_,_],[_],h=>cases h
  | [_,_],_::_::_::_,h=>cases h
  | _::_::_::_,_,h=>cases h
 | .BoolOp op vs pos,h=>exact NG R ok h
 | .IfExp c a b pos,h=>exact Vd R ok h
 | .Call f es ks pos,h =>
  cases ks with
  | nil=>exact OX R ok h
  | cons _ _=>cases h
 | .Tuple es k pos,h=>exact VU R ok h
 | .List es pos,h=>exact Vc R ok h
 | .Dict ks vs pos,h =>
  cases ks with
  | nil =>
   cases vs with
   | nil=>cases h;exact bD
   | cons _ _=>cases h
  | cons _ _=>cases h
 | .Subscript a b pos,h =>
  have ix:GR b=true->(if GR b then fL r C Γ a b else none)=some c->PE X (.Subscript a b pos) (tE X.K Γ c.o c.Γ c.js c.f):=fun hb h=>by
   rw [if_pos hb] at h;exact Zb R ok hb h
  match b,h with
  | .Slice lo hi st p2,h =>
   cases st with
   | none=>exact ZU R ok h
   | some st =>
    cases lo with
    | none =>
     cases hi with
     | none=>exact VW R ok h
     | some _=>cases h
    | some _=>cases h
  | .NamedExpr ..,h | .BinOp ..,h | .Lambda ..,h | .Dict ..,h | .Set ..,h | .ListComp ..,h | .SetComp ..,h | .DictComp ..,h | .GeneratorExp ..,h | .Await ..,h | .Yield ..,h | .YieldFrom ..,h | .Call ..,h | .FormattedValue ..,h | .JoinedStr ..,h | .Constant ..,h | .Attribute ..,h | .Subscript ..,h | .Starred ..,h | .Name ..,h | .List ..,h | .Tuple ..,h | .UnaryOp ..,h | .BoolOp ..,h | .IfExp ..,h | .Compare ..,h=>exact ix rfl h
 | .ListComp e gens sc pos,h=>exact KN R ok h
 | .NamedExpr ..,h | .Lambda ..,h | .Set ..,h | .SetComp ..,h | .DictComp ..,h | .GeneratorExp ..,h | .Await ..,h | .Yield ..,h | .YieldFrom ..,h | .FormattedValue ..,h | .JoinedStr ..,h | .Attribute ..,h | .Starred ..,h | .Slice ..,h=>cases h
noncomputable def Nb:Expr->Bool
 | .ListComp ..=>false
 | .SetComp ..=>false
 | .DictComp ..=>false
 | _=>true
theorem Ft {e:Expr} {t:Option Expr} {l:Nat} {env:Env} (h:Nb e=true):swapsWith e t l env=pure false:=by
 cases e<;>first | rfl | (cases h)
theorem Ov {K:W.Frag} {Γ Γ' Γ2:Gm} {js:List Nat} {o:Nat} {f:Ev Dv} {σ:St} {H:Hp} {Q:VK} (hw:BP Γ2 Γ'=true) (h:tE K Γ o Γ2 js f σ H Q):tE K Γ o Γ' js f σ H Q:=by
 obtain ⟨g,m,P,r,R,k,res,e,q⟩:=h;refine ⟨g,m,P,r,R,k,res,e,fun b m' g' P' Pv v H' hk ag s rv r1 n=>?_⟩;obtain ⟨g2,P2,s2,r2⟩:=r1.weaken hw;have nn:Disj Pv P':=fun a q z=>n a z q
 refine q b m' g2 P2 Pv v H' hk ag (s.trans ((s2.frame (R:=Pv)).sub (fun _ z=>z) fun _ z=>z)) (rv.held s2 r1.fpOk nn) r2 fun a q z=>s2.out rv.fpOk nn a z q
def Pl (Γ:Gm):CS:=⟨some Γ,[],Gd,false,false,false⟩
def cw (r:Rec) (C:Cf) (Γ:Gm) (e:Expr):Option CS:=(match Uc C e with
 | some i=>(match Γ.getD i none with | some o=>some (CE.mk o (Γ.set i none) [] (Mf i)) | none=>none)
 | none=>r.E C Γ e).bind fun c=>if BP C.F.Γr c.Γ && (C.F.ro == 0 || c.o == C.F.ro) then some ⟨none,c.js,Wh c.f,true,false,false⟩ else none
theorem VX {r:Rec} (R:OkR r) {C:Cf} {X:Cx} {Γl:Option Gm} {Γ:Gm} {e:Expr} {pos:Pos} {c:CS} (ok:Cok C X) (h:cw r C Γ e=some c):PS X (.Return (some e) pos) (tS X.K C.F Γl Γ c.Γ c.js c.f):=by
  obtain ⟨c1,e1,h⟩:=bind_some' h;split at h
  · rename_i hw;simp only [Bool.and_eq_true,Bool.or_eq_true,beq_iff_eq] at hw;cases h;have he:PE X e (tE X.K Γ c1.o c1.Γ c1.js c1.f):=by
      split at e1
      · rename_i i hi;split at e1
        · rename_i o ho;cases e1;exact bB (Cs ok hi) (BQ ho)
        · cases e1
      · exact R.E ok e1
    have he2:PE X e (tE X.K Γ C.F.ro c1.Γ c1.js c1.f):=by
      rcases hw.2 with z | z
      · rw [z];exact Cd he
      · rw [<- z];exact he
    exact aq (PE.imp he2 fun _ _ _ h=>Ov hw.1 h)
  · cases h
def Ze (r:Rec) (C:Cf) (Γ:Gm) (e:Expr):Option CS:=if Nb e then (r.E C Γ e).bind fun c=>some ⟨some c.Γ,c.js,RL c.f,false,false,false⟩ else none
theorem Vf {r:Rec} (R:OkR r) {C:Cf} {X:Cx} {Γl:Option Gm} {Γ:Gm} {e:Expr} {pos:Pos} {c:CS} (ok:Cok C X) (h:Ze r C Γ e=some c):PS X (.Expr e pos) (tS X.K C.F Γl Γ c.Γ c.js c.f):=by
 unfold Ze at h;split at h
 ·rename_i hn;obtain ⟨c1,e1,h⟩:=bind_some' h;cases h;exact Xg (R.E ok e1) (Ft hn)
 ·cases h
def Rr (C:Cf) (x:Str) (c:CE):Option CS:=(Iv C x).bind fun i=>if decide (i < c.Γ.length) && !C.F.io.contains i then some ⟨some (c.Γ.set i (some c.o)),c.js++[i],Hi c.f (aO i),false,false,false⟩ else none
theorem KM {C:Cf} {X:Cx} {Γl:Option Gm} {Γ:Gm} {x:Str} {e:Expr} {pos pos':Pos} {c1:CE} {c:CS} (ok:Cok C X) (he:PE X e (tE X.K Γ c1.o c1.Γ c1.js c1.f)) (hs:swapsWith e (some (.Name x pos')) pos.line X.env=pure false) (h:Rr C x c1=some c):PS X (.Assign [.Name x pos'] e pos) (tS X.K C.F Γl Γ c.Γ c.js c.f):=by
 obtain ⟨i,e1,h⟩:=bind_some' h;split at h
 ·rename_i hw;simp only [Bool.and_eq_true,decide_eq_true_eq,Bool.not_eq_true'] at hw;cases h;obtain ⟨h1,h2,h3⟩:=Fe ok e1;exact ao ok.nd h1 h2 (fun z=>by rw [List.contains_iff_mem.mpr z] at hw;cases hw.2) hw.1 he hs h3
 ·cases h
def eX (sc:Scope) (x:Str) (pl:Nat) (scope:Scope) (vl:Nat):Bool:=(if sc.kind.isAnnotationScope then ScopeKind.function else sc.kind) == .function && sc.names.lookup x == some .local && pl == vl && !(scope.names.any fun (n,k)=>n == x && (k == .local || k == .cell))
theorem PN {X:Cx} {C:Cf} (ok:Cok C X) {x:Str} {pos':Pos} {elt:Expr} {gens:List Comprehension} {scope:Scope} {pos:Pos} {l:Nat}:swapsWith (.ListComp elt gens scope pos) (some (.Name x pos')) l X.env=pure (eX C.sc x pos'.line scope pos.line):=by
 unfold eX;rw [<- ok.sc];rfl
theorem OW {r:Rec} (R:OkR r) {C:Cf} {X:Cx} {Γ:Gm} {elt:Expr} {gens:List Comprehension} {scope:Scope} {pos:Pos} {c:CE} (ok:Cok C X) (h:Ht r C Γ elt gens scope=some c) :
    ∃ t:TE,(∀ σ H Q,tE X.K Γ c.o c.Γ c.js c.f σ H Q->t σ H Q)/\∀ {i x pos' spos},X.N[i]?=some x->Loc X.env.scope x->(X.fn x=true\/X.env.scope.names.lookup x=some .local)->swapsWith (.ListComp elt gens scope pos) (some (.Name x pos')) spos.line X.env=pure true->PS X (.Assign [.Name x pos'] (.ListComp elt gens scope pos) spos) (Km t (Cv i)):=by
  unfold Ht at h;split at h
  · rename_i tg iter ifs;obtain ⟨s,e1,h⟩:=bind_some' h;simp only at h;split at h
    · rename_i hin;obtain ⟨t,e2,h⟩:=bind_some' h;obtain ⟨p,e3,h⟩:=bind_some' h;split at h
      · rename_i hw;rw [Bool.and_eq_true] at hw;cases h;obtain ⟨f1,f2,f3⟩:=Ii e3;unfold JF at f1;split at f1
        · rename_i hj;obtain ⟨ct,f1a,f1⟩:=bind_some' f1;obtain ⟨ce,f1b,f1⟩:=bind_some' f1;have ep:p.2=⟨t,ct,ce⟩:=(Option.some.inj f1).symm;have hs:∀ x,foldedSetIterable iter X.env x=pure x:=fun x=>by cases iter<;>first | rfl | (cases e1)
          have hI:r.I C Γ (Jq tg) iter=some s:=by cases iter<;>first | exact e1 | (cases e1)
          have hi:=R.I tg ok hI;have okI:=fun cl a s H fp=>ok.inner scope cl a s H fp
          have hg:∀ cl a s H fp,PG (X.inner scope cl a s H fp) tg (t.g X.K):=fun cl a s H fp=>(FN (okI cl a s H fp) e2).1
          have hsx:∀ i∈t.J,i∈LF C.N scope:=fun i hi=>List.contains_iff_mem.mp ((List.all_eq_true.mp hw.2) i hi)
          have hgo:Oq (LF C.N scope) (t.g X.K):=(FN (okI [] 0 X.s₀ X.H₀ []) e2).2.1 _ hsx;have ht:Ls X.K p.1 (t.Γ p.1) t.J (t.g X.K) t.f:=(FN (okI [] 0 X.s₀ X.H₀ []) e2).2.2 hj;have he:∀ cl a s H fp,PE (X.inner scope cl a s H fp) elt (tE X.K ct.Γ 0 ce.Γ ce.js ce.f):=fun cl a s H fp=>Cd (R.E (okI cl a s H fp) f1b)
          have hin':innerOk X.N X.env.scope scope (LF C.N scope)=true:=by rw [ok.N,ok.sc];exact hin
          rw [ep] at f2 f3 ⊢;simp only at f2 f3 ⊢;cases ifs with
          | nil =>
            cases f1a;have hc:∀ cl a s H fp,Sv (X.inner scope cl a s H fp) [] (tT X.K (t.Γ p.1) (t.Γ p.1) [] Cw):=fun cl a s H fp=>QZ
            refine ⟨_,?_,fun {i x pos' spos} hix hx hf hsw=>JY ok.nd hix hx hin' ok.calm hi hg hgo hc he hsw hs hf⟩;intro σ H Q h;cases hJ:Au p.1 (t.J++([]++ce.js)) with
            | nil=>rw [hJ] at h;exact Jj ht hw.1 f3 f2 hsx hJ.symm h
            | cons j J=>rw [hJ] at h;exact Hq ht hw.1 f3 f2 hsx hJ.symm h
          | cons i1 ifs =>
            cases ifs with
            | nil =>
              have hc:∀ cl a s H fp,Sv (X.inner scope cl a s H fp) [i1] (tT X.K (t.Γ p.1) ct.Γ ct.js ct.f):=fun cl a s H fp=>.one (R.T (okI cl a s H fp) f1a)
              refine ⟨_,?_,fun {i x pos' spos} hix hx hf hsw=>JY ok.nd hix hx hin' ok.calm hi hg hgo hc he hsw hs hf⟩;intro σ H Q h;cases hJ:Au p.1 (t.J++(ct.js++ce.js)) with
              | nil=>rw [hJ] at h;exact Jl ht hw.1 f3 f2 hsx hJ.symm h
              | cons j J=>rw [hJ] at h;exact Ho ht hw.1 f3 f2 hsx hJ.symm h
            | cons _ _=>cases f1a
        · cases f1
      · cases h
    · cases h
  · cases h
def Ws (r:Rec) (C:Cf) (Γ:Gm) (x:Str) (elt:Expr) (gens:List Comprehension) (scope:Scope):Option CS:=(Ht r C Γ elt gens scope).bind fun c=>Rr C x c
theorem SK {r:Rec} (R:OkR r) {C:Cf} {X:Cx} {Γl:Option Gm} {Γ:Gm} {x:Str} {elt:Expr} {gens:List Comprehension} {scope:Scope} {pos' cpos pos:Pos} {c:CS} (ok:Cok C X) (h:Ws r C Γ x elt gens scope=some c):PS X (.Assign [.Name x pos'] (.ListComp elt gens scope cpos) pos) (tS X.K C.F Γl Γ c.Γ c.js c.f):=by
 obtain ⟨c1,e1,h⟩:=bind_some' h;cases hb:eX C.sc x pos'.line scope cpos.line with
 | false=>exact KM ok (KN R ok e1) (by rw [PN ok,hb]) h
 | true =>
  obtain ⟨i,e2,h⟩:=bind_some' h;split at h
  ·rename_i hw;simp only [Bool.and_eq_true,decide_eq_true_eq,Bool.not_eq_true'] at hw;cases h;obtain ⟨h1,h2,h3⟩:=Fe ok e2;obtain ⟨t,q1,q2⟩:=OW R (pos:=cpos) ok e1;refine PS.imp (q2 h1 h2 h3 (by rw [PN ok,hb])) fun D σ H h=>q1 _ _ _ (MI hw.1 (fun z=>by rw [List.contains_iff_mem.mpr z] at hw;cases hw.2) h)
  ·cases h
noncomputable def bt:Expr->Bool
 | .Tuple ..=>false
 | _=>true
theorem ND {tg e:Expr} {env:Env} (h:bt e=true):swappedStores [tg] e env=pure none:=by
 cases e<;>first | (cases h;done) | (cases tg<;>rfl)
theorem MH {tg e:Expr} {l:Nat} {env:Env} (h:Nb e=true):swapsWithSole [tg] e l env=pure false:=Ft h
def SJ (r:Rec) (C:Cf) (Γ:Gm) (es:List Expr) (k:Nat) (p:Pos) (e:Expr):Option CS:=if bt e && Nb e then (r.E C Γ e).bind fun c=>(cG C (.Tuple es k p)).bind fun t=>if t.J.all (fun i=>decide (i < c.Γ.length) && !C.F.io.contains i) then some ⟨some (t.Γ c.Γ),c.js++t.J,Hi c.f t.f,false,false,false⟩ else none else none
theorem SI {r:Rec} (R:OkR r) {C:Cf} {X:Cx} {Γl:Option Gm} {Γ:Gm} {es:List Expr} {k:Nat} {p pos:Pos} {e:Expr} {c:CS} (ok:Cok C X) (h:SJ r C Γ es k p e=some c):PS X (.Assign [.Tuple es k p] e pos) (tS X.K C.F Γl Γ c.Γ c.js c.f):=by
 unfold SJ at h;split at h
 ·rename_i hn;rw [Bool.and_eq_true] at hn;obtain ⟨c1,e1,h⟩:=bind_some' h;obtain ⟨t,e2,h⟩:=bind_some' h;split at h
  ·rename_i hw;cases h;obtain ⟨g1,_,g3⟩:=FN ok e2;rw [List.all_eq_true] at hw;refine ay (Cd (R.E ok e1)) g1 (g3 (by rw [List.all_eq_true];exact fun i hi=>(Bool.and_eq_true_iff.mp (hw i hi)).1)) (fun i hi z=>?_) (MH hn.2) (ND hn.1) rfl;have:=(Bool.and_eq_true_iff.mp (hw i z)).2;rw [List.contains_iff_mem.mpr hi] at this;cases this
  ·cases h
 ·cases h
def cX (i j:Nat) (fa:Ev (List Dv)):Es:=fun R m k=>fa R m fun ds m1=>match ds with | [a,b]=>k.nx ((m1.set i a).set j b) | _=>none
def YO (sc:Scope) (x y:Str) (px py:Pos) (a b:Expr):Bool:=(match sc.kind with | .function=>true | _=>false) && (match sc.names.lookup x with | some .local=>true | _=>false) && (match sc.names.lookup y with | some .local=>true | _=>false) && !(x == y) && (py.line == px.line) && Ax a && Ax b && !(foldedForSure 8 a && foldedForSure 8 b) && !(constantsAlone 8 a && constantsAlone 8 b)
theorem YN {env:Env} {x y:Str} {px py pt pt2:Pos} {kt k2:Nat} {a b:Expr} (h:YO env.scope x y px py a b=true):swappedStores [.Tuple [.Name x px,.Name y py] kt pt] (.Tuple [a,b] k2 pt2) env=pure (some [x,y])/\env.scope.names.lookup x=some .local/\env.scope.names.lookup y=some .local:=by
 unfold YO at h;simp only [Bool.and_eq_true,Bool.not_eq_true'] at h;obtain ⟨⟨⟨⟨⟨⟨⟨⟨h1,h2⟩,h3⟩,h4⟩,h5⟩,h6⟩,h7⟩,h8⟩,h9⟩:=h;have k1:env.scope.kind=.function:=by split at h1;(assumption);(cases h1)
 have k2:env.scope.names.lookup x=some .local:=by split at h2;(assumption);(cases h2)
 have k3:env.scope.names.lookup y=some .local:=by split at h3;(assumption);(cases h3)
 refine ⟨?_,k2,k3⟩;have kx:env.kindOf x=some .local:=k2;have ky:env.kindOf y=some .local:=k3;have yx:(y == x)=false:=by
  cases q:y == x with
  | false=>rfl
  | true=>rw [beq_iff_eq.mp q,beq_self_eq_true] at h4;cases h4
 unfold swappedStores;simp [Env.blockKind,k1,ScopeKind.isAnnotationScope,kx,ky,beq_iff_eq.mp h5,h8,h9,List.eraseDups_cons,yx,h4,Expr.pos];rintro (z | z)
 ·cases a<;>first | (cases z;done) | (cases h6;done)
 ·cases b<;>first | (cases z;done) | (cases h7;done)
def ZX (r:Rec) (C:Cf) (Γ:Gm) (x y:Str) (px py:Pos) (a b:Expr):Option CS:=if YO C.sc x y px py a b then (r.A C Γ [] [a,b]).bind fun c=>(CU C.N x).bind fun i=>(CU C.N y).bind fun j=>if decide (i < c.Γ.length) && decide (j < c.Γ.length) && !(i == j) && !C.F.io.contains i && !C.F.io.contains j then some ⟨some ((c.Γ.set i (some 0)).set j (some 0)),c.js++([i]++[j]),cX i j (AM c.as),false,false,false⟩ else none else none
theorem VY {r:Rec} (R:OkR r) {C:Cf} {X:Cx} {Γl:Option Gm} {Γ:Gm} {x y:Str} {px py pt pt2 pos:Pos} {kt k2:Nat} {a b:Expr} {c:CS} (ok:Cok C X) (h:ZX r C Γ x y px py a b=some c):PS X (.Assign [.Tuple [.Name x px,.Name y py] kt pt] (.Tuple [a,b] k2 pt2) pos) (tS X.K C.F Γl Γ c.Γ c.js c.f):=by
 unfold ZX at h;split at h
 ·rename_i hp;obtain ⟨c1,e1,h⟩:=bind_some' h;obtain ⟨i,e2,h⟩:=bind_some' h;obtain ⟨j,e3,h⟩:=bind_some' h;split at h
  ·rename_i hw;simp only [Bool.and_eq_true,decide_eq_true_eq,Bool.not_eq_true',beq_eq_false_iff_ne] at hw;obtain ⟨⟨⟨⟨w1,w2⟩,w3⟩,w4⟩,w5⟩:=hw;cases h;obtain ⟨a1,a2,a3,a4,a5⟩:=R.A ok e1;rw [<- ok.sc] at hp;obtain ⟨p1,p2,p3⟩:=YN (pt:=pt) (pt2:=pt2) (kt:=kt) (k2:=k2) hp;refine PS.imp (Xs ok.calm ok.nd (by rw [ok.N];exact BW e2) (by rw [ok.N];exact BW e3) w3 p2 p3 a1 p1 rfl) fun D σ H h=>?_
   obtain ⟨g,m,P,r',R',k,res,e,q⟩:=h;refine AJ c1.as r' a2 e fun ds m1 g1 P1 vs H1 hk ag s ar r1=>?_
   have rp:=ar.reps (a5 rfl)
   match ds,hk,rp with
   | [d1,d2],hk,rp =>
    obtain ⟨v1,us,rfl,h1,rp⟩:=BF rp;obtain ⟨v2,us2,rfl,h2,rp⟩:=BF rp;cases BJ rp;obtain ⟨P2,r2,s2⟩:=r1.setNew w1 h1 fun _ z=>z.elim
    obtain ⟨P3,r3,s3⟩:=r2.setNew (by rw [List.length_set];exact w2) h2 fun _ z=>z.elim
    refine ⟨v1,v2,rfl,q.nx _ _ g1 P3 _ H1 rfl hk (ag.trans (BU.set.trans BU.set)) (s.less fun a z=>(s3 a z).elim (fun z=>(s2 a z).elim id False.elim) False.elim) ((Io.set ?_).trans (Io.set ?_)) r3⟩
    ·exact fun z=>by rw [List.contains_iff_mem.mpr z] at w4;cases w4
    ·exact fun z=>by rw [List.contains_iff_mem.mpr z] at w5;cases w5
   | [],hk,_=>cases hk
   | [_],hk,_=>cases hk
   | _::_::_::_,hk,_=>cases hk
  ·cases h
 ·cases h
def Ru (r:Rec) (C:Cf) (Γ:Gm) (x k e:Expr):Option CS:=if Nb e && GR k then (Uc C x).bind fun i=>(r.E C Γ e).bind fun c=>(Od r C c.Γ k).bind fun a=>if (c.Γ.getD i none).isSome && a.Γ.getD i none == some 1 then some ⟨some a.Γ,c.js++((a.js++[])++[i]),Wg i C.T.st c.f (AM [a.a]),false,false,false⟩ else none else none
theorem NC {X:Cx} {x k:Expr} {tpos:Pos} (hk:GR k=true):∀ v,assign (.Subscript x k tpos) X.env v=(do
      let ov <- holding [v] (eval x X.env)
      let iv <- holding [v,ov] (eval k X.env)
      standAt tpos
      holding [v,ov,iv] (setItem ov iv v)
      release [v,ov,iv] []):=fun v=>by
  cases k<;>first | rfl | (cases hk)
theorem Rt {r:Rec} (R:OkR r) {C:Cf} {X:Cx} {Γl:Option Gm} {Γ:Gm} {x k e:Expr} {tpos pos:Pos} {c:CS} (ok:Cok C X) (h:Ru r C Γ x k e=some c):PS X (.Assign [.Subscript x k tpos] e pos) (tS X.K C.F Γl Γ c.Γ c.js c.f):=by
 unfold Ru at h;split at h
 ·rename_i hn;rw [Bool.and_eq_true] at hn;obtain ⟨i,e0,h⟩:=bind_some' h;obtain ⟨c1,e1,h⟩:=bind_some' h;obtain ⟨a,e2,h⟩:=bind_some' h;split at h
  ·rename_i hw;rw [Bool.and_eq_true] at hw;cases h;obtain ⟨a1,a2⟩:=Ff R ok e2;obtain ⟨T,t1,t2⟩:=C.T.stok X ok.gx;refine PS.imp (QI (Cd (R.E ok e1)) (YD (Cs ok e0) a1 t1 (NC hn.2)) (MH hn.1) ?_ rfl) fun D σ H h=>Pm t2 a2 (getD_some hw.1) (BQ (beq_iff_eq.mp hw.2)) h
   cases e<;>rfl
  ·cases h
 ·cases h
def WZ:Option Gm->Option Gm->Option Gm
 | some a,some b=>some (BV a b)
 | none,b=>b
 | a,none=>a
def gJ (r:Rec) (C:Cf) (Γl:Option Gm) (Γ:Gm) (c:Expr) (a b:List Stmt):Option CS:=(r.T C Γ c).bind fun t=>(r.Ss C Γl t.Γ a).bind fun x=>(r.Ss C Γl t.Γ b).bind fun y=>let Γn:=WZ x.Γ y.Γ;let js:=t.js++(x.js++y.js);if IW Γn x.Γ && IW Γn y.Γ then some ⟨Γn,js,match x.Γ,y.Γ,Γn with
      | some _,some _,some Γ'=>if x.er || x.eb || x.ec || y.er || y.eb || y.ec then Jx t.f x.f y.f else cY (Au Γ' js) (Jx t.f x.f y.f)
      | _,_,_=>Jx t.f x.f y.f,x.er || y.er,x.eb || y.eb,x.ec || y.ec⟩ else none
theorem Zc {r:Rec} (R:OkR r) {C:Cf} {X:Cx} {Γl:Option Gm} {Γ:Gm} {t:Expr} {a b:List Stmt} {pos:Pos} {c:CS} (ok:Cok C X) (h:gJ r C Γl Γ t a b=some c):PS X (.If t a b pos) (tS X.K C.F Γl Γ c.Γ c.js c.f):=by
 obtain ⟨ct,e1,h⟩:=bind_some' h;obtain ⟨x,e2,h⟩:=bind_some' h;obtain ⟨y,e3,h⟩:=bind_some' h;simp only at h;split at h
 ·rename_i hw;rw [Bool.and_eq_true] at hw;have base:PS X (.If t a b pos) (tS X.K C.F Γl Γ (WZ x.Γ y.Γ) (ct.js++(x.js++y.js)) (Jx ct.f x.f y.f)):=ee (R.T ok e1) (Pq (R.Ss ok e2) hw.1) (Pq (R.Ss ok e3) hw.2);cases h;split
  ·rename_i Γ' _ _ hj;split
   ·exact base
   ·simp only [hj] at base ⊢;exact PS.imp base fun D σ H h=>Ys (fun i o z=>BH z) (fun i z=>As z) h
  ·exact base
 ·cases h
noncomputable def Sa (f:Int->Int->Int) (x y:Dv):Option Dv:=match x,y with | .int i,.int j=>some (.int (f i j)) | _,_=>none
theorem Oc {f:Int->Int->Int} {x y z:Dv} (h:Sa f x y=some z):∃ i j,x=.int i/\y=.int j/\z=.int (f i j):=by
 unfold Sa at h;split at h
 ·cases h;exact ⟨_,_,rfl,rfl,rfl⟩
 ·cases h
def dP:=Sa fun i j=>i+j
def Zt:=Sa fun i j=>i - j
def RM (i:Nat) (p:Dv->Dv->Option Dv) (f:Ev Dv):Es:=fun R m k=>f R m fun d m1=>(p (m.at i) d).bind fun y=>k.nx (m1.set i y)
theorem Mt {K:W.Frag} {F:Fr} {Γl:Option Gm} {Γ Γ2:Gm} {js:List Nat} {fe:Ev Dv} {i o:Nat} {f:Int->Int->Int} (h0:Γ[i]?=some (some o)) (hi:i < Γ2.length) (hio:i∉F.io) {D:Ends} {σ:St} {H:Hp} (h:tS K F Γl Γ (some (Γ2.set i (some 0))) (js++[i]) (RM i (Sa f) fe) D σ H):ae i (tE K Γ 0 Γ2 js fe) (fD f) D σ H:=by
 obtain ⟨g0,m,P,r,R,k,res,e,q⟩:=h;obtain ⟨v0,P0,ev0,rv0,_⟩:=r.see h0;refine ⟨v0,ev0,g0,m,P,r,R,_,res,e,fun d m1 g' P' Pv v H' hk ag s rv r1 n=>?_⟩;obtain ⟨y,e1,e2⟩:=bind_some' hk;obtain ⟨a,b,ea,rfl,rfl⟩:=Oc e1;rw [ea] at rv0;refine ⟨a,b,rep_int rv0,rep_int rv,?_⟩;obtain ⟨P2,r2,s2⟩:=r1.setNew (o:=0) (v:=.int (f a b)) (d:=.int (f a b)) (Pv:=nop) hi BK fun _ z=>z.elim
 exact q.nx _ _ g' P2 _ H' rfl e2 (ag.trans BU.set) (s.less fun a z=>(s2 a z).elim .inl False.elim) (Io.set hio) r2
def dG (r:Rec) (C:Cf) (Γ:Gm) (x:Str) (op:Operator) (e:Expr):Option CS:=(Iv C x).bind fun i=>if (Γ.getD i none).isSome then (r.E C Γ e).bind fun c=>if decide (i < c.Γ.length) && !C.F.io.contains i then (match op with
    | .Add=>some ⟨some (c.Γ.set i (some 0)),c.js++[i],RM i dP c.f,false,false,false⟩
    | .Sub=>some ⟨some (c.Γ.set i (some 0)),c.js++[i],RM i Zt c.f,false,false,false⟩
    | _=>none) else none else none
theorem Vk {r:Rec} (R:OkR r) {C:Cf} {X:Cx} {Γl:Option Gm} {Γ:Gm} {x:Str} {op:Operator} {e:Expr} {pos pos':Pos} {c:CS} (ok:Cok C X) (h:dG r C Γ x op e=some c):PS X (.AugAssign (.Name x pos') op e pos) (tS X.K C.F Γl Γ c.Γ c.js c.f):=by
 obtain ⟨i,e1,h⟩:=bind_some' h;split at h
 ·rename_i hs;obtain ⟨c1,e2,h⟩:=bind_some' h;split at h
  ·rename_i hw;simp only [Bool.and_eq_true,decide_eq_true_eq,Bool.not_eq_true'] at hw;obtain ⟨o,ho⟩:=getD_some hs;obtain ⟨h1,h2,h3⟩:=Fe ok e1;have hio:i∉C.F.io:=fun z=>by rw [List.contains_iff_mem.mpr z] at hw;cases hw.2
   split at h
   ·cases h;exact PS.imp (QH ok.nd h1 h2 (Cd (R.E ok e2)) Yy h3) fun _ _ _ h=>Mt ho hw.1 hio h
   ·cases h;exact PS.imp (QH ok.nd h1 h2 (Cd (R.E ok e2)) Yx h3) fun _ _ _ h=>Mt ho hw.1 hio h
   ·cases h
  ·cases h
 ·cases h
def RB (r:Rec) (C:Cf) (pre:Gm->Gm) (body:List Stmt):Nat->Gm->Option (Gm×CS)
 | 0,_=>none
 | n+1,Γ=>match r.Ss C (some Γ) (pre Γ) body with
  | some x=>if IW (some Γ) x.Γ then some (Γ,x) else RB r C pre body n (match x.Γ with | some Γ'=>BV Γ Γ' | none=>Γ)
  | none=>RB r C pre body n (Γ.map fun o=>o.map fun _=>0)
theorem Ih {r:Rec} {C:Cf} {pre:Gm->Gm} {body:List Stmt}:∀ {n:Nat} {Γ:Gm} {p:Gm×CS},RB r C pre body n Γ=some p->r.Ss C (some p.1) (pre p.1) body=some p.2/\IW (some p.1) p.2.Γ=true
 | 0,_,_,h=>by cases h
 | n+1,Γ,p,h=>by
  unfold RB at h;split at h
  ·rename_i x hx;split at h
   ·rename_i hw;cases h;exact ⟨hx,hw⟩
   ·exact Ih h
  ·exact Ih h
def dE (r:Rec) (C:Cf) (Γ:Gm) (tg iter:Expr) (body:List Stmt):Option CS:=(match iter with | .Set _ _ _=>none | _=>r.I C Γ (Jq tg) iter).bind fun s=>(cG C tg).bind fun t=>if t.J.all (fun i=>decide (i < s.Γ.length) && !C.F.io.contains i) then (RB r C t.Γ body 4 s.Γ).bind fun p=>if BP p.1 s.Γ then
    let jb:=t.J++p.2.js
    some ⟨some p.1,s.js++jb,if p.2.er || p.2.eb then RJ s.f t.f (Au p.1 jb) (Au C.F.Γr jb) p.2.f else RK s.f t.f (Au p.1 jb) p.2.f,p.2.er,false,false⟩ else none else none
theorem Ve {r:Rec} (R:OkR r) {C:Cf} {X:Cx} {Γl:Option Gm} {Γ:Gm} {tg iter:Expr} {body:List Stmt} {pos:Pos} {c:CS} (ok:Cok C X) (h:dE r C Γ tg iter body=some c):PS X (.For tg iter body [] pos) (tS X.K C.F Γl Γ c.Γ c.js c.f):=by
 obtain ⟨s,e1,h⟩:=bind_some' h;obtain ⟨t,e2,h⟩:=bind_some' h;split at h
 ·rename_i hj;obtain ⟨p,e3,h⟩:=bind_some' h;split at h
  ·rename_i hw;have hs:∀ x,foldedSetIterable iter X.env x=pure x:=fun x=>by cases iter<;>first | rfl | (cases e1)
   have hI:r.I C Γ (Jq tg) iter=some s:=by cases iter<;>first | exact e1 | (cases e1)
   obtain ⟨f1,f2⟩:=Ih e3;obtain ⟨g1,_,g3⟩:=FN ok e2;rw [List.all_eq_true] at hj;have hJ:t.J.all (fun i=>decide (i < p.1.length))=true:=by
    rw [List.all_eq_true];intro i hi;rw [DP hw];exact (Bool.and_eq_true_iff.mp (hj i hi)).1
   have hio:∀ i∈C.F.io,i∉t.J:=fun i hi z=>by
    have:=(Bool.and_eq_true_iff.mp (hj i z)).2;rw [List.contains_iff_mem.mpr hi] at this;cases this
   have hi:PI X tg iter (tI X.K Γ p.1 s.js s.f):=PI.imp (R.I tg ok hI) fun _ _ _ h=>Sy hw h
   have hp:PassesOwn (model X.prog X.w) X.A X.env X.xe:=by rw [ok.xe];exact PassesOwn.never
   have hb:=R.Ss ok f1;simp only at h;cases h;split
   ·exact Xe hp ok.calm hi g1 (g3 hJ) hio hb f2 rfl rfl hs
   ·exact Xf hp ok.calm hi g1 (g3 hJ) hio hb f2 rfl hs
  ·cases h
 ·cases h
noncomputable def dY:Nat:=1000000
def eC (r:Rec) (C:Cf) (Γ:Gm) (c:Expr) (body:List Stmt):Option CS:=(fixW r C c body 4 Γ).bind fun p=>if BP p.1 Γ then some ⟨some p.1,p.2.2.js,if p.2.2.er || p.2.2.eb then Wd dY p.2.1.f (Au p.1 p.2.2.js) (Au C.F.Γr p.2.2.js) p.2.2.f else We dY p.2.1.f (Au p.1 p.2.2.js) p.2.2.f,p.2.2.er,false,false⟩ else none
where
 fixW (r:Rec) (C:Cf) (c:Expr) (body:List Stmt):Nat->Gm->Option (Gm×CT×CS)
 | 0,_=>none
 | n+1,Γ=>(r.T C Γ c).bind fun t=>if t.js.isEmpty && BP Γ t.Γ then (match r.Ss C (some Γ) Γ body with
  | some x=>if IW (some Γ) x.Γ then some (Γ,t,x) else fixW r C c body n (match x.Γ with | some Γ'=>BV Γ Γ' | none=>Γ)
  | none=>fixW r C c body n (Γ.map fun o=>o.map fun _=>0)) else fixW r C c body n (BV Γ t.Γ)
theorem FZ {r:Rec} {C:Cf} {c:Expr} {body:List Stmt}:∀ {n:Nat} {Γ:Gm} {p:Gm×CT×CS},eC.fixW r C c body n Γ=some p->r.T C p.1 c=some p.2.1/\p.2.1.js=[]/\BP p.1 p.2.1.Γ=true/\r.Ss C (some p.1) p.1 body=some p.2.2/\IW (some p.1) p.2.2.Γ=true
 | 0,_,_,h=>by cases h
 | n+1,Γ,p,h=>by
  unfold eC.fixW at h;obtain ⟨t,e1,h⟩:=bind_some' h;split at h
  ·rename_i hw;rw [Bool.and_eq_true] at hw;split at h
   ·rename_i x hx;split at h
    ·rename_i hl;cases h;exact ⟨e1,List.isEmpty_iff.mp hw.1,hw.2,hx,hl⟩
    ·exact FZ h
   ·exact FZ h
  ·exact FZ h
theorem au {X:Cx} {F:Fr} {Γl Γn:Option Gm} {Γ Γ':Gm} {js:List Nat} {s:Stmt} {f:Es} (hw:BP Γ' Γ=true) (h:PS X s (tS X.K F Γl Γ' Γn js f)):PS X s (tS X.K F Γl Γ Γn js f):=PS.imp h fun D σ H h=>by
 obtain ⟨g,m,P,r,R,k,res,e,q⟩:=h;obtain ⟨g2,P2,s2,r2⟩:=r.weaken hw;exact ⟨g2,m,P2,r2,R,k,res,e,⟨fun Γ' m' g' P' σ' H' e hk a s'=>q.nx Γ' m' g' P' σ' H' e hk a (s2.trans s'),fun d m' g' P' Pv σ' v H' hk a s'=>q.rt d m' g' P' Pv σ' v H' hk a (s2.trans s'),fun Γ' m' g' P' σ' H' e hk a s'=>q.bk Γ' m' g' P' σ' H' e hk a (s2.trans s'),fun Γ' m' g' P' σ' H' e hk a s'=>q.ct Γ' m' g' P' σ' H' e hk a (s2.trans s')⟩⟩
theorem ZR {r:Rec} (R:OkR r) {C:Cf} {X:Cx} {Γl:Option Gm} {Γ:Gm} {t:Expr} {body:List Stmt} {pos:Pos} {c:CS} (ok:Cok C X) (h:eC r C Γ t body=some c):PS X (.While t body [] pos) (tS X.K C.F Γl Γ c.Γ c.js c.f):=by
 obtain ⟨p,e1,h⟩:=bind_some' h;split at h
 ·rename_i hw;cases h;obtain ⟨f1,f2,f3,f4,f5⟩:=FZ e1;have hp:PassesOwn (model X.prog X.w) X.A X.env X.xe:=by rw [ok.xe];exact PassesOwn.never
  have ht:=R.T ok f1;rw [f2] at ht;refine au hw ?_;split
  ·exact aj dY hp ht (R.Ss ok f4) f3 f5 rfl rfl
  ·exact ak dY hp ht (R.Ss ok f4) f3 f5 rfl
 ·cases h
def cc:Es:=fun _ m k=>k.bk m
def cZ:Es:=fun _ m k=>k.ct m
def Zi (Γl:Option Gm) (Γ:Gm):Option CS:=match Γl with
 | some Γ'=>if BP Γ' Γ then some ⟨none,[],cc,false,true,false⟩ else none
 | none=>none
def Zf (Γl:Option Gm) (Γ:Gm):Option CS:=match Γl with
 | some Γ'=>if BP Γ' Γ then some ⟨none,[],cZ,false,false,true⟩ else none
 | none=>none
theorem Vi {C:Cf} {X:Cx} {Γl:Option Gm} {Γ:Gm} {pos:Pos} {c:CS} (h:Zi Γl Γ=some c):PS X (.Break pos) (tS X.K C.F Γl Γ c.Γ c.js c.f):=by
  unfold Zi at h;split at h
  · rename_i Γ';split at h
    · rename_i hw;cases h;exact PS.imp QG fun D σ H h=>by
        obtain ⟨g,m,P,r,R,k,res,e,q⟩:=h;obtain ⟨g2,P2,s2,r2⟩:=r.weaken hw;exact q.bk Γ' m g2 P2 σ H rfl e BU.refl s2 Io.refl r2
    · cases h
  · cases h
theorem Vg {C:Cf} {X:Cx} {Γl:Option Gm} {Γ:Gm} {pos:Pos} {c:CS} (h:Zf Γl Γ=some c):PS X (.Continue pos) (tS X.K C.F Γl Γ c.Γ c.js c.f):=by
  unfold Zf at h;split at h
  · rename_i Γ';split at h
    · rename_i hw;cases h;exact PS.imp JZ fun D σ H h=>by
        obtain ⟨g,m,P,r,R,k,res,e,q⟩:=h;obtain ⟨g2,P2,s2,r2⟩:=r.weaken hw;exact q.ct Γ' m g2 P2 σ H rfl e BU.refl s2 Io.refl r2
    · cases h
  · cases h
def PV (r:Rec) (C:Cf) (Γl:Option Gm) (Γ:Gm) (s:Stmt):Option CS:=match s with
 | .Pass _=>some (Pl Γ)
 | .Expr (.Constant (.str _) _ _) _=>some (Pl Γ)
 | .Expr e _=>Ze r C Γ e
 | .Return (some e) _=>cw r C Γ e
 | .Assign [.Name x _] (.ListComp elt gens scope _) _=>Ws r C Γ x elt gens scope
 | .Assign [.Name x _] e _=>if Nb e then (r.E C Γ e).bind fun c=>Rr C x c else none
 | .Assign [.Tuple [.Name x px,.Name y py] _ _] (.Tuple [a,b] _ _) _=>ZX r C Γ x y px py a b
 | .Assign [.Tuple es k p] e _=>SJ r C Γ es k p e
 | .Assign [.Subscript x k _] e _=>Ru r C Γ x k e
 | .AugAssign (.Name x _) op e _=>dG r C Γ x op e
 | .If c a b _=>gJ r C Γl Γ c a b
 | .For tg iter body [] _=>dE r C Γ tg iter body
 | .While c body [] _=>eC r C Γ c body
 | .Break _=>Zi Γl Γ
 | .Continue _=>Zf Γl Γ
 | _=>none
theorem PU {r:Rec} (R:OkR r) {C:Cf} {X:Cx} {Γl:Option Gm} {Γ:Gm} {s:Stmt} {c:CS} (ok:Cok C X) (h:PV r C Γl Γ s=some c):PS X s (tS X.K C.F Γl Γ c.Γ c.js c.f):=by
 unfold PV at h;split at h
 ·cases h;exact Xc
 ·cases h;exact ax
 ·exact Vf R ok h
 ·exact VX R ok h
 ·exact SK R ok h
 ·split at h
  ·rename_i hn;obtain ⟨c1,e1,h⟩:=bind_some' h;exact KM ok (R.E ok e1) (Ft hn) h
  ·cases h
 ·exact VY R ok h
 ·exact SI R ok h
 ·exact Rt R ok h
 ·exact Vk R ok h
 ·exact Zc R ok h
 ·exact Ve R ok h
 ·exact ZR R ok h
 ·exact Vi h
 ·exact Vg h
 ·cases h
def PR (r:Rec) (C:Cf) (Γl:Option Gm) (Γ:Gm) (ss:List Stmt):Option CS:=match ss with
 | []=>some (Pl Γ)
 | [s]=>r.S C Γl Γ s
 | s::ss=>(r.S C Γl Γ s).bind fun x=>match x.Γ with
  | none=>some x
  | some Γ'=>(r.Ss C Γl Γ' ss).bind fun y=>some ⟨y.Γ,x.js++y.js,cV x.f y.f,x.er || y.er,x.eb || y.eb,x.ec || y.ec⟩
theorem NF {r:Rec} (R:OkR r) {C:Cf} {X:Cx} {Γl:Option Gm} {Γ:Gm} {ss:List Stmt} {c:CS} (ok:Cok C X) (h:PR r C Γl Γ ss=some c):Ce X ss (tS X.K C.F Γl Γ c.Γ c.js c.f):=by
 match ss,h with
 | [],h=>cases h;exact aw
 | [s],h=>exact av (R.S ok h)
 | s::s2::ss,h =>
  obtain ⟨x,e1,h⟩:=bind_some' (show (r.S C Γl Γ s).bind _=some c from h);have h1:=R.S ok e1;cases hx:x.Γ with
  | none =>
   simp only [hx] at h;cases h;rw [hx] at h1 ⊢;exact Xd h1
  | some Γ' =>
   simp only [hx] at h;obtain ⟨y,e2,h⟩:=bind_some' h;cases h;rw [hx] at h1;exact Xh (f:=x.f) (f2:=y.f) (js:=x.js) (js2:=y.js) h1 (R.Ss ok e2)
def step (r:Rec):Rec:=⟨HL r,JH r,MD r,PY r,PV r,PR r⟩
def comp:Nat->Rec
 | 0=>⟨fun _ _ _=>none,fun _ _ _ _=>none,fun _ _ _=>none,fun _ _ _ _=>none,fun _ _ _ _=>none,fun _ _ _ _=>none⟩
 | n+1=>step (comp n)
theorem Mn:∀ n,OkR (comp n)
 | 0=>⟨(fun _ h=>by cases h),(fun _ h=>by cases h),(fun _ h=>by cases h),(fun _ _ h=>by cases h),(fun _ h=>by cases h),(fun _ h=>by cases h),fun _ h=>by cases h⟩
 | n+1=>have R:=Mn n;⟨fun ok h=>PZ R ok h,fun ok h=>Pe R ok h,fun ok h=>PQ R ok h,fun tg ok h=>PX R tg ok h,fun ok h=>PU R ok h,fun ok h=>NF R ok h,fun ok h _ _ h0 hn=>NH R ok h h0 hn⟩
noncomputable def bc (sc:Scope):List Str:=sc.names.filterMap fun p=>match p.2 with | .local=>some p.1 | .cell=>some p.1 | _=>none
mutual
noncomputable def AY:Expr->List Str
 | .ListComp e gs sc _=>bc sc++AY e++Qj gs
 | .BoolOp _ vs _=>Ba vs
 | .BinOp a _ b _=>AY a++AY b
 | .UnaryOp _ a _=>AY a
 | .IfExp a b c _=>AY a++AY b++AY c
 | .Compare a _ bs _=>AY a++Ba bs
 | .Call f es _ _=>AY f++Ba es
 | .Attribute a _ _=>AY a
 | .Subscript a b _=>AY a++AY b
 | .Slice a b c _=>GU a++GU b++GU c
 | .List es _=>Ba es
 | .Tuple es _ _=>Ba es
 | .Dict _ vs _=>Ba vs
 | .JoinedStr vs _=>Ba vs
 | .FormattedValue v _ _ _=>AY v
 | _=>[]
noncomputable def Ba:List Expr->List Str
 | []=>[]
 | e::es=>AY e++Ba es
noncomputable def GU:Option Expr->List Str
 | none=>[]
 | some e=>AY e
noncomputable def Qj:List Comprehension->List Str
 | []=>[]
 | ⟨_,it,ifs,_⟩::gs=>AY it++Ba ifs++Qj gs
end
mutual
noncomputable def Yb:Stmt->List Str
 | .Return v _=>GU v
 | .Assign ts v _=>Ba ts++AY v
 | .AugAssign t _ v _=>AY t++AY v
 | .Expr v _=>AY v
 | .If c a b _=>AY c++DN a++DN b
 | .For _ it b _ _=>AY it++DN b
 | .While c b _ _=>AY c++DN b
 | .Raise e _ _=>GU e
 | _=>[]
noncomputable def DN:List Stmt->List Str
 | []=>[]
 | s::ss=>Yb s++DN ss
end
noncomputable def Rb:List Str->List Str->List Str
 | [],acc=>acc
 | x::xs,acc=>if acc.contains x then Rb xs acc else Rb xs (acc++[x])
def AC (st:Stmt):List Str:=(Ae st).args.map (·.arg)
def BZ (st:Stmt):List Str:=Rb (AC st++bc (AG st)++DN (AR st)) []
noncomputable def hd:(io:List Nat)->Jn Dv io->Dv
 | [],t=>t
 | _::_,t=>t.1
noncomputable def MV:(J:List Nat)->DX J->List Dv
 | [],_=>[]
 | [_],d=>[d]
 | _::j::J,t=>t.1::MV (j::J) t.2
def tl:(io:List Nat)->Jn Dv io->List Dv
 | [],_=>[]
 | i::io,t=>MV (i::io) t.2
theorem Ha:∀ (J:List Nat) (m:M),MV J (AU J m)=J.map m.at
 | [],_=>rfl
 | [_],_=>rfl
 | i::j::J,m=>by
  show m.at i::MV (j::J) (AU (j::J) m)=_;rw [Ha (j::J) m];rfl
theorem Wc (io:List Nat) (d:Dv) (m:M):hd io (WW io d m)=d:=by cases io<;>rfl
theorem Vy (io:List Nat) (d:Dv) (m:M):tl io (WW io d m)=io.map m.at:=by
 cases io with
 | nil=>rfl
 | cons i io=>exact Ha (i::io) m
def Ac (ps:List Str) (io:List Nat) (ro:Nat) (nb:Bool) (F:List Dv->Option (Jn Dv io)):Sig where
 ps:=ps
 io:=io
 ro:=ro
 nb:=nb
 fn:=fun ds=>(F ds).bind fun t=>some (hd io t,tl io t)
 cps:=fun R ds k=>(F ds).bind fun t=>k (hd io t) (tl io t)
 eq:=fun R ds k=>by cases F ds<;>rfl
def kJ (io:List Nat):Kt (Jn Dv io):=⟨fun m=>some (WW io .non m),fun d m=>some (WW io d m),fun _=>none,fun _=>none⟩
end R
namespace L2
open PySem
abbrev WB (l:W.OpenLaw) (n:Nat) (as:List Addr) (K:Params->W.Frag) (N:Nat):Prop:=
 W.LeftO l.row.prog (W.view l.prog (List.range n)) [] (fun s=>W.xlAt (W.view l.prog (List.range n)) [] s && W.recOk [] s) (fun s=>as.map s.heap.get?) (fun w=>(K w.params).map fun p=>some p.2) N
theorem mk_law {l:W.OpenLaw} {n:Nat} {N:Nat} {d:DefRec} {K:Params->W.Frag} {as:List Addr} (ws:l.wellSaid=true) (left:WB l n as K N)
    (has:∀ P,as=(K P).map (·.1)) (hr:l.row.records=[]) (hdef:W.defOf (W.view l.prog (List.range n)) l.row.name=some (d,[])) (hp:l.row.prog.theDef l.row.name=some (d.params,d.body,d.scope)) (hk:W.kwWritten? d.params.kwonlyargs d.params.kw_defaults=some [])
    (hwr:(!l.row.writes || l.row.records.isEmpty)=true)
    (ok:(W.chainsOk (W.view l.prog (List.range n)) && W.opensWell l.row.prog && (W.frees l.row.toRowW && l.row.within.isEmpty))=true) (hb:l.row.prog.bare) (hw:l.row.toRowW.promised)
    (call:W.WalkO (W.view l.prog (List.range n)) [] (W.XL (W.view l.prog (List.range n)) []) (W.InK K) l.row.toRowW d [] fun f vs=>PySem.call f vs):l.Holds:=
  W.holds_law ws fun said=>W.holds_open (q:=W.view l.prog (List.range n)) (loose:=[]) (XP:=W.XL (W.view l.prog (List.range n)) []) (YP:=W.InK K) left (W.InK.of has) W.InK.keeps (fun s e=>W.xl_of s (Bool.and_eq_true_iff.mp e).1) W.XL.keeps hdef hp hk (fun s e=>W.recFacts_nil hr) hwr said ok hb hw call
noncomputable abbrev ke (P:Params) (x:Str) (t:Tok) (v:Value):DictEntry:=⟨PyData.keyHash P x,.str x t,v⟩
noncomputable abbrev cO (x:Str) (t:Tok) (l a s:Int) (r1 r2:Addr) (v1 v2 v3:Value) (r3:Addr) (t2:Nat):Obj:=⟨.type "code", none,.fields #[.str x t,.str x (t+1),.str "/claim/cut.py" (t+2),.int l 0,.int a 0,.int 0 0,.int 0 0,.int s 0,.ref r1,.bool true,.int 181 0,.ref r2,v1,v2,v3,.ref r3,.int t2 0,.int l 0,.str "/claim/cut.py" (t2+1)],#[]⟩
noncomputable def ZN:Stmt->Pos
 | .FunctionDef _ _ _ _ _ _ _ _ _ p=>p
 | _=>⟨0,0,0,0⟩
noncomputable def OA (K:W.Frag) (n:Str):Addr:=match W.nsIn K mainGlobals n with
 | some (some (.ref a))=>a
 | _=>0
noncomputable def YB (K:W.Frag) (f:Addr):Value:=match K.lookup f with
 | some ⟨_,_,.func d,_⟩=>d.pyModule
 | _=>.none
noncomputable def VS (K:W.Frag) (f:Addr):Value:=match K.lookup f with
 | some ⟨_,_,.func d,_⟩=>d.code
 | _=>.none
abbrev GF (K:W.Frag) (n:Str) (t:Stmt):Prop:=W.nsIn K mainGlobals n=some (some (.ref (OA K n))) /\
 K.lookup (OA K n)=some ⟨.type "function", none,.func (W.fnOf n n (Ae t) (AR t) (AG t) .none .none .none (YB K (OA K n)) none (VS K (OA K n)) .none),#[]⟩ /\
 W.codeIn K (VS K (OA K n)) n=true/\W.keepIn K (.ref (OA K n))=true
theorem LP {K:W.Frag} {n:Str} {t:Stmt} (h:GF K n t):Fun K n n t (OA K n) (W.fnOf n n (Ae t) (AR t) (AG t) .none .none .none (YB K (OA K n)) none (VS K (OA K n)) .none):=ZE h.2.1 h.2.2.1 h.2.2.2
end L2
namespace R
open PySem L2
structure Md:Type 1 where
 T:Tb
 cs:List (Str×Dv)
 bl:List Str
def cu (M:Md) (fs:List (Str×Sig)) (st:Stmt) (io:List Nat) (ro:Nat):Cf:=⟨BZ st,AG st,fun _=>true,fs,M.cs,M.bl,M.T,⟨io,Kw (BZ st).length io,ro⟩⟩
noncomputable def ef:Rec:=⟨fun _ _ _=>none,fun _ _ _ _=>none,fun _ _ _=>none,fun _ _ _ _=>none,fun _ _ _ _=>none,fun _ _ _ _=>none⟩
def cmp (n:Nat):Rec:=Nat.rec ef (fun _ r=>step r) n
theorem Ro:∀ n,cmp n=comp n
 | 0=>rfl
 | n+1=>by
  show step (cmp n)=step (comp n);rw [Ro n]
def Tf (M:Md) (fs:List (Str×Sig)) (st:Stmt) (io:List Nat) (ro:Nat):Option CS:=(cmp 100).Ss (cu M fs st io ro) none (VC (BZ st).length (AC st).length io) (AR st)
def Bf (M:Md) (fs:List (Str×Sig)) (st:Stmt) (io:List Nat) (ro:Nat) (ds:List Dv):Option (Jn Dv io):=match Tf M fs st io ro with
 | some c=>c.f (Jn Dv io) (ds++List.replicate ((BZ st).length - (AC st).length) .non) (kJ io)
 | none=>none
noncomputable def fC:ScopeKind->Bool
 | .function=>true
 | _=>false
noncomputable def UV:NameKind->Bool
 | .free=>false
 | _=>true
def Td (N P:List Str) (sc:Scope):Bool:=fC sc.kind && !sc.isCoroutine && !sc.isGenerator && decide N.Nodup && (N.take P.length == P) && (P.all fun x=>match sc.names.lookup x with | some .local=>true | some .cell=>true | _=>false) && sc.names.all fun y=>UV y.2
theorem MJ {N P:List Str} {sc:Scope} (h:Td N P sc=true):FnScope N P sc:=by
 unfold Td at h;simp only [Bool.and_eq_true,Bool.not_eq_true',decide_eq_true_eq,List.all_eq_true] at h;obtain ⟨⟨⟨⟨⟨⟨h1,h2⟩,h3⟩,h4⟩,h5⟩,h6⟩,h7⟩:=h;refine ⟨?_,h2,h3,h4,by simpa using h5,fun x hx=>?_,fun y hy z=>?_⟩
 ·cases q:sc.kind<;>first | rfl | (rw [q] at h1;cases h1)
 ·have:=h6 x hx;split at this
  ·rename_i e;exact .inl e
  ·rename_i e;exact .inr e
  ·cases this
 ·have:=h7 y hy;rw [z] at this;cases this
def FD (M:Md) (fs:List (Str×Sig)) (st:Stmt) (io:List Nat) (ro:Nat):Bool:=Td (BZ st) (AC st) (AG st) && decide io.Nodup && (io.all fun i=>decide (i < (AC st).length)) && decide ((AC st).length<=(BZ st).length) && match Tf M fs st io ro with
 | some c=>IW (some (Kw (BZ st).length io)) c.Γ
 | none=>false
section
variable {P:Program} {w:World} {K:W.Frag} {mg:Str->Option Value} {base:Heap}
structure Bs (M:Md) (K:W.Frag) (mg:Str->Option Value):Prop where
 cs:∀ x d,(x,d)∈M.cs->∃ v u,mg x=some u/\RelV v u/\∀ g H,Rep K g H 0 d v nop
 bl:∀ x∈M.bl,mg x=none
def Fs (P:Program) (w:World) (K:W.Frag) (mg:Str->Option Value) (base:Heap) (k:Nat) (fs:List (Str×Sig)):Prop:=∀ x s,(x,s)∈fs->s.io.Nodup/\(∀ i∈s.io,i < s.ps.length)/\∃ j,j<=k/\Fx P w K mg base j x s.ps (NJ K s)
theorem Fs.nil {k:Nat}:Fs P w K mg base k []:=fun _ _ h=>by cases h
theorem Fs.cons {k:Nat} {x:Str} {s:Sig} {fs:List (Str×Sig)} (h:Fs P w K mg base k fs) (h1:s.io.Nodup) (h2:∀ i∈s.io,i < s.ps.length) (h3:Fx P w K mg base (k+1) x s.ps (NJ K s)):Fs P w K mg base (k+1) ((x,s)::fs):=fun y t q=>by
 rcases List.mem_cons.mp q with q | q
 ·cases q;exact ⟨h1,h2,k+1,Nat.le_refl _,h3⟩
 ·obtain ⟨a,b,j,hj,f⟩:=h y t q;exact ⟨a,b,j,by omega,f⟩
theorem Lc {M:Md} {k:Nat} {fs:List (Str×Sig)} {x:Str} {st:Stmt} {f:Addr} {fd:FuncData} {io:List Nat} {ro:Nat} {nb:Bool} {F:List Dv->Option (Jn Dv io)} (b:Bs M K mg) (h:Fs P w K mg base k fs) (c:FD M fs st io ro=true) (hF:∀ ds,ds.length=(AC st).length->Bf M fs st io ro ds=F ds)
    (Fn:Fun K x x st f fd):FnOk P w K mg base Oj (k+1) f fd (AC st) (NJ K (Ac (AC st) io ro nb F)):=by
  unfold FD at c;simp only [Bool.and_eq_true,decide_eq_true_eq,List.all_eq_true] at c;obtain ⟨⟨⟨⟨c1,c2⟩,c3⟩,c4⟩,c5⟩:=c;cases e:Tf M fs st io ro with
  | none=>rw [e] at c5;cases c5
  | some cs =>
    rw [e] at c5;have S:=MJ c1;refine cN (s:=Ac (AC st) io ro nb F) (N:=BZ st) (body:=cs.f) (Γn:=cs.Γ) (js:=cs.js) Fn S c2 c3 c4 c5 (fun cdv A outer s' H E hr=>?_) fun ds d bs hl hf=>?_
    · have ok:Cok (cu M fs st io ro) (KG Oj P w K mg base (BZ st) x (AG st) f cdv A outer s' H E).nox:=⟨rfl,rfl,S.nd,rfl,fun _ _=>rfl,⟨rfl,k,hr⟩,fun y t q=>by
        obtain ⟨a,b,j,hj,q⟩:=h y t q;exact ⟨a,b,j,k,hj,hr,q⟩,b.cs,b.bl,rfl⟩
      unfold Tf at e;rw [Ro] at e;exact (Mn 100).Ss ok e
    · have hr:=hF ds hl;unfold Bf at hr;rw [e] at hr;obtain ⟨t,e1,e2⟩:=bind_some' (show (F ds).bind _=some (d,bs) from hf);cases e2;refine ⟨_,kJ io,t,hr.trans e1,fun m z=>?_,fun d' m z=>?_⟩
      · have z:some (WW io .non m)=some t:=z;cases z;exact ⟨Wc io _ m,Vy io _ m⟩
      · have z:some (WW io d' m)=some t:=z;cases z;exact ⟨Wc io _ m,Vy io _ m⟩
abbrev Ak (x:Str) (st:Stmt):Prop:=∀ (kV doc pm:Value) (an:Option Addr) (cdv ct:Value) (us:List Value),us.length=(AC st).length->bindArgs (W.fnOf x x (Ae st) (AR st) (AG st) .none kV doc pm an cdv ct) ⟨us,[]⟩=pure ((AC st).zip us)
theorem FC {M:Md} {fs:List (Str×Sig)} {st:Stmt} {io:List Nat} {ro:Nat} (c:FD M fs st io ro=true):io.Nodup/\∀ i∈io,i < (AC st).length:=by
 unfold FD at c;simp only [Bool.and_eq_true,decide_eq_true_eq,List.all_eq_true] at c;exact ⟨c.1.1.1.2,c.1.1.2⟩
theorem Fs.def {M:Md} {k:Nat} {fs:List (Str×Sig)} {x:Str} {st:Stmt} {io:List Nat} {ro:Nat} {nb:Bool} {F:List Dv->Option (Jn Dv io)} (h:Fs P w K mg base k fs) (b:Bs M K mg) (c:FD M fs st io ro=true) (hF:∀ ds,ds.length=(AC st).length->Bf M fs st io ro ds=F ds)
    (gf:GF K x st) (hm:mg x=some (.ref (OA K x))) (hb:Ak x st):Fs P w K mg base (k+1) ((x,Ac (AC st) io ro nb F)::fs):=
  h.cons (FC c).1 (FC c).2 ⟨_,_,Lc b h c hF (LP gf),hm,gf.2.2.2,(LP gf).binds hb⟩
theorem Fs.defR {M:Md} {k:Nat} {fs:List (Str×Sig)} {x:Str} {st:Stmt} {io:List Nat} {ro:Nat} {nb:Bool} {F:Nat->List Dv->Option (Jn Dv io)} (h:Fs P w K mg base k fs) (b:Bs M K mg) (c0:Td (BZ st) (AC st) (AG st)=true) (h0:∀ ds,F 0 ds=none) (c:∀ n,FD M ((x,Ac (AC st) io ro nb (F n))::fs) st io ro=true)
    (hF:∀ n ds,ds.length=(AC st).length->Bf M ((x,Ac (AC st) io ro nb (F n))::fs) st io ro ds=F (n+1) ds)
    (gf:GF K x st) (hm:mg x=some (.ref (OA K x))) (hb:Ak x st):∀ n,Fs P w K mg base (k+n+1) ((x,Ac (AC st) io ro nb (F n))::fs)
  | 0=>h.cons (FC (c 0)).1 (FC (c 0)).2 ⟨_,_,(LP gf).ok (k:=k) (MJ c0) (fun vs H Q E q=>by
      obtain ⟨g,ds,P,r,d,bs,e,q⟩:=q;have e:(F 0 ds).bind _=some (d,bs):=e;rw [h0 ds] at e;cases e) (fun cdv A outer s H vs Q E _ q=>by
      obtain ⟨g,ds,P,r,d,bs,e,q⟩:=q;have e:(F 0 ds).bind _=some (d,bs):=e;rw [h0 ds] at e;cases e),hm,gf.2.2.2,(LP gf).binds hb⟩
  | n+1=>by
    have ih:=Fs.defR h b c0 h0 c hF gf hm hb n;have hh:Fs P w K mg base (k+n+1) fs:=fun y t q=>ih y t (List.mem_cons_of_mem _ q)
    exact hh.cons (FC (c 0)).1 (FC (c 0)).2 ⟨_,_,Lc b ih (c n) (hF n) (LP gf),hm,gf.2.2.2,(LP gf).binds hb⟩
theorem SW {x:Str} {st:Stmt} (hn:(AC st).length=1) (h:∀ (kV doc pm:Value) (an:Option Addr) (cdv ct:Value) (a:Value),bindArgs (W.fnOf x x (Ae st) (AR st) (AG st) .none kV doc pm an cdv ct) ⟨[a],[]⟩=pure ((AC st).zip [a])):Ak x st:=fun kV doc pm an cdv ct us hl=>by
 rw [hn] at hl
 match us,hl with | [a],_=>exact h kV doc pm an cdv ct a
theorem SV {x:Str} {st:Stmt} (hn:(AC st).length=2) (h:∀ (kV doc pm:Value) (an:Option Addr) (cdv ct:Value) (a b:Value),bindArgs (W.fnOf x x (Ae st) (AR st) (AG st) .none kV doc pm an cdv ct) ⟨[a,b],[]⟩=pure ((AC st).zip [a,b])):Ak x st:=fun kV doc pm an cdv ct us hl=>by
 rw [hn] at hl
 match us,hl with | [a,b],_=>exact h kV doc pm an cdv ct a b
theorem Zm {x:Str} {st:Stmt} (hn:(AC st).length=3) (h:∀ (kV doc pm:Value) (an:Option Addr) (cdv ct:Value) (a b c:Value),bindArgs (W.fnOf x x (Ae st) (AR st) (AG st) .none kV doc pm an cdv ct) ⟨[a,b,c],[]⟩=pure ((AC st).zip [a,b,c])):Ak x st:=fun kV doc pm an cdv ct us hl=>by
 rw [hn] at hl
 match us,hl with | [a,b,c],_=>exact h kV doc pm an cdv ct a b c
theorem SU {x:Str} {st:Stmt} (hn:(AC st).length=4) (h:∀ (kV doc pm:Value) (an:Option Addr) (cdv ct:Value) (a b c d:Value),bindArgs (W.fnOf x x (Ae st) (AR st) (AG st) .none kV doc pm an cdv ct) ⟨[a,b,c,d],[]⟩=pure ((AC st).zip [a,b,c,d])):Ak x st:=fun kV doc pm an cdv ct us hl=>by
 rw [hn] at hl
 match us,hl with | [a,b,c,d],_=>exact h kV doc pm an cdv ct a b c d
theorem fS {x:Str} {st:Stmt} (hn:(AC st).length=5) (h:∀ (kV doc pm:Value) (an:Option Addr) (cdv ct:Value) (a b c d e:Value),bindArgs (W.fnOf x x (Ae st) (AR st) (AG st) .none kV doc pm an cdv ct) ⟨[a,b,c,d,e],[]⟩=pure ((AC st).zip [a,b,c,d,e])):Ak x st:=fun kV doc pm an cdv ct us hl=>by
 rw [hn] at hl
 match us,hl with | [a,b,c,d,e],_=>exact h kV doc pm an cdv ct a b c d e
theorem fR {x:Str} {st:Stmt} (hn:(AC st).length=6) (h:∀ (kV doc pm:Value) (an:Option Addr) (cdv ct:Value) (a b c d e f:Value),bindArgs (W.fnOf x x (Ae st) (AR st) (AG st) .none kV doc pm an cdv ct) ⟨[a,b,c,d,e,f],[]⟩=pure ((AC st).zip [a,b,c,d,e,f])):Ak x st:=fun kV doc pm an cdv ct us hl=>by
 rw [hn] at hl
 match us,hl with | [a,b,c,d,e,f],_=>exact h kV doc pm an cdv ct a b c d e f
noncomputable def LH (K:W.Frag) (x:Str):Bool:=match W.nsIn K mainGlobals x with | some none=>true | _=>false
theorem dJ {M:Md} {h:Heap} (X:K.In h) (G:h.Ns mainGlobals mg) (hc:M.cs=[]) (hz:M.bl.all (LH K)=true):Bs M K mg:=⟨(fun x d q=>by rw [hc] at q;cases q),fun x hx=>by
 have:=(List.all_eq_true.mp hz) x hx;unfold LH at this;split at this
 ·rename_i e;exact W.mg_none_of X G e
 ·cases this⟩
noncomputable def Ga {α:Type} (f:Dv->Dv->Dv->Dv->Option α) (ds:List Dv):Option α:=match ds with | [a,b,c,d]=>f a b c d | _=>none
noncomputable def ZH {α:Type} (f:Dv->Dv->Dv->Dv->Dv->Option α) (ds:List Dv):Option α:=match ds with | [a,b,c,d,e]=>f a b c d e | _=>none
noncomputable def XW {α:Type} (F:Dv->Dv->Dv->Dv->Dv->Dv->Option α) (ds:List Dv):Option α:=match ds with | [a,b,c,d,e,f]=>F a b c d e f | _=>none
noncomputable def Ki {α:Type} (f:Dv->Dv->Dv->Option α) (ds:List Dv):Option α:=match ds with | [a,b,c]=>f a b c | _=>none
theorem eZ {α:Type}:∀ ds,XW (fun _ _ _ _ _ _=>(none:Option α)) ds=none
 | []=>rfl | [_]=>rfl | [_,_]=>rfl | [_,_,_]=>rfl | [_,_,_,_]=>rfl | [_,_,_,_,_]=>rfl | [_,_,_,_,_,_]=>rfl | _::_::_::_::_::_::_::_=>rfl
theorem aD {α:Type} {G:List Dv->Option α} {f:Dv->Option α} {n:Nat} (hn:n=1) (h:∀ a,G [a]=f a):∀ ds,ds.length=n->G ds=one f ds:=fun ds hl=>by
 subst hn
 match ds,hl with | [a],_=>exact h a
theorem dI {α:Type} {G:List Dv->Option α} {f:Dv->Dv->Option α} {n:Nat} (hn:n=2) (h:∀ a b,G [a,b]=f a b):∀ ds,ds.length=n->G ds=two f ds:=fun ds hl=>by
 subst hn
 match ds,hl with | [a,b],_=>exact h a b
theorem fQ {α:Type} {G:List Dv->Option α} {f:Dv->Dv->Dv->Option α} {n:Nat} (hn:n=3) (h:∀ a b c,G [a,b,c]=f a b c):∀ ds,ds.length=n->G ds=Ki f ds:=fun ds hl=>by
 subst hn
 match ds,hl with | [a,b,c],_=>exact h a b c
theorem dH {α:Type} {G:List Dv->Option α} {f:Dv->Dv->Dv->Dv->Option α} {n:Nat} (hn:n=4) (h:∀ a b c d,G [a,b,c,d]=f a b c d):∀ ds,ds.length=n->G ds=Ga f ds:=fun ds hl=>by
 subst hn
 match ds,hl with | [a,b,c,d],_=>exact h a b c d
theorem gY {α:Type} {G:List Dv->Option α} {f:Dv->Dv->Dv->Dv->Dv->Option α} {n:Nat} (hn:n=5) (h:∀ a b c d e,G [a,b,c,d,e]=f a b c d e):∀ ds,ds.length=n->G ds=ZH f ds:=fun ds hl=>by
 subst hn
 match ds,hl with | [a,b,c,d,e],_=>exact h a b c d e
theorem gX {α:Type} {G:List Dv->Option α} {F:Dv->Dv->Dv->Dv->Dv->Dv->Option α} {n:Nat} (hn:n=6) (h:∀ a b c d e f,G [a,b,c,d,e,f]=F a b c d e f):∀ ds,ds.length=n->G ds=XW F ds:=fun ds hl=>by
 subst hn
 match ds,hl with | [a,b,c,d,e,f],_=>exact h a b c d e f
def MG (K:W.Frag):Sp:=fun vs H Q _=>∃ (a:Addr) (ns:List Int),vs=[.ref a]/\CP K H a (ns.map V.int)/\ns.length<=63/\Vu H/\∀ H',Q (.bl true) H'
theorem Yk {k:Nat} {f:Addr} {fd:FuncData} {ps:List Str} {nb:Bool} {F:List Dv->Option Dv} (hp:ps.length=1) (h0:FnOk P w K mg base Oj k f fd ps (NJ K (Ac ps [] 1 nb F))) (h:∀ ns:List Int,ns.length<=63->F [.scr ns]=some (.bl true)):FnOk P w K mg base Oj k f fd ps (MG K):=h0.imp fun vs H Q E q=>by
 obtain ⟨a,ns,rfl,hS,hn,hO,q⟩:=q;have hs:Scr K H a ns:=by
  rcases hS with (h1 | h1) | h1
  ·rcases hO a with z | ⟨o,xs,z⟩
   ·rw [h1] at z;cases z
   ·rw [h1] at z;cases z
  ·exact .inl h1
  ·exact .inr h1
 refine ⟨⟨fun _=>False,[]⟩,[.scr ns],nop,?_,.bl true,[],by show (F [.scr ns]).bind _=_;rw [h ns hn];rfl,fun g' H' v Pv Pb _ rv _ _=>by rw [rep_bl rv];exact q H'⟩;show Rel K _ H (On ps.length []) _ _ _;rw [hp];refine ⟨?_,fun _=>nop,⟨rfl,rfl,fun i o e=>?_,fun i e a z=>z,fun i j n a z=>z.elim⟩,fun a=>⟨fun z=>z.elim,fun ⟨i,z⟩=>z⟩⟩
 ·exact fun _ z=>z.elim
 ·match i,e with
  | 0,e=>cases e;exact ⟨_,_,rfl,rfl,by unfold Rep;exact ⟨⟨a,rfl,hs⟩,fun _ z=>z⟩⟩
end
end R
namespace L4
open PySem PySem.Spec PyProof.Rows L2 Builtin
theorem Ez:fillsNumberSlot (.type "tuple") "mul" = pure false:=
 PySem.fillsNumberSlot_seq (id := "tuple.__mul__") (r:=some (.builtin "tuple.__rmul__")) F.slot_tuple_mul.lookup (by decide +kernel) F.slot_tuple_rmul.lookup (by decide +kernel)
theorem IJ:seqRepeat? (.type "tuple")=pure (some (.builtin "tuple.__mul__")):=by
 unfold seqRepeat?
 rw [PySem.seqSlot_of (T := "tuple") (name := "__mul__") (id := "tuple.__mul__") F.slot_tuple_mul.lookup (by decide +kernel),PySem.seqSlot_of (T := "tuple") (name := "__rmul__") (id := "tuple.__rmul__") F.slot_tuple_rmul.lookup (by decide +kernel)]
 rfl
theorem GY (a:Int) (t:Tok) (l:Addr) (items:Array Value) (n:Nat) :
    Meets (Builtin.«int.__rmul__» ⟨[.int a t,.ref l],[]⟩) (fun _ R s=>(∃ o,s.heap.get? l=some o/\o.cls=.type "tuple" /\ o.data=.seq items n)/\R (.ok (.ret Value.notImplemented)) s):=
  .of_wp fun prog w A R s h=>by
    obtain ⟨hp,g,d,tk,os⟩:=s;obtain ⟨⟨⟨c,dd,dat,sl⟩,hl,hc,hd⟩,h⟩:=h;simp only at hc hd;subst hc;subst hd
    wp_walk;exact ⟨_,rfl,h⟩
theorem Fk (l:Addr) (items:Array Value) (n:Nat) (x:Int) (u:Tok) (h1:1 < x) (h2:x < 2 ^ 63) (hz:items.size * x.toNat<=1000000) (hne:items.isEmpty=false) :
    Meets (Builtin.«tuple.__mul__» ⟨[.ref l,.int x u],[]⟩) (fun _ R s=>(∃ o,s.heap.get? l=some o/\o.cls=.type "tuple" /\ o.data=.seq items n)/\R (.ok (.ret (Value.ref s.heap.objs.size))) { s with heap:=s.heap.push { cls:=Value.type "tuple", data:=Data.seq ((List.replicate x.toNat items).foldl (·++·) #[]) },toks:=s.toks }):=
  .of_wp fun prog w A R s h=>by
    obtain ⟨hp,g,d,tk,os⟩:=s;obtain ⟨⟨⟨c,dd,dat,sl⟩,hl,hc,hd⟩,h⟩:=h;simp only at hc hd;subst hc;subst hd;have hz':(items.size:Int) * x<=1000000:=by
      have e:x=(x.toNat:Int):=by omega
      rw [e,<- Int.natCast_mul];omega
    wp_walk
    refine wpAny_ite_false (by simp;omega) ?_
    wp_walk
    refine wpAny_ite_false (by rw [hne];simp;omega) ?_
    wp_walk
    refine wpAny_ite_false (by rw [hne];simp;omega) ?_
    wp_walk
    refine wpAny_ite_false (decide_eq_false (by have : ((2 : Int) ^ 63 - 1) / 8 > 1000000 := by decide
                                                omega)) ?_
    wp_walk
    refine wpAny_ite_false (decide_eq_false (by unfold Tuple.tupleTooMany;rw [decide_eq_true_eq,sizeLine_eq];omega)) ?_
    wp_walk
    refine wpAny_ite_false (decide_eq_false (by rw [AutoListH.size_joined,sizeLine_eq];simp only [Array.size_empty];have:=Nat.mul_comm items.size x.toNat;omega)) ?_
    wp_walk
    exact ⟨_,rfl,h⟩
theorem Gs (l:Addr) (items:Array Value) (n:Nat) (u:Tok) :
    Meets (Builtin.«tuple.__mul__» ⟨[.ref l,.int 1 u],[]⟩) (fun _ R s=>(∃ o,s.heap.get? l=some o/\o.cls=.type "tuple" /\ o.data=.seq items n)/\R (.ok (.ret (Value.ref l))) s):=
  .of_wp fun prog w A R s h=>by
    obtain ⟨hp,g,d,tk,os⟩:=s;obtain ⟨⟨⟨c,dd,dat,sl⟩,hl,hc,hd⟩,h⟩:=h;simp only at hc hd;subst hc;subst hd
    wp_walk
    exact ⟨_,rfl,h⟩
def rRepT:R2:=fun x y H Q=>∃ l k xs,x=.ref l/\y=.int k/\H l=some (.tup xs)/\xs≠[]/\1<=k/\k < 2 ^ 63/\xs.length * k.toNat<=1000000/\(k=1->Q (.ref l) H) /\
 (k≠1->∀ p,H p=none->Q (.ref p) (upd H p (.tup (List.replicate k.toNat xs).flatten)))
theorem op_repT {X:Cx}:Bx X (binaryOp .Mult) rRepT:=by
  intro pins s σ H x y v u Q I rx ry h;obtain ⟨l,k,xs,rfl,rfl,hH,hne,h1,h2,hz,q1,q2⟩:=h;cases rx;obtain ⟨t,rfl⟩:=ry;obtain ⟨its,r,⟨o,e,c,n,dt⟩,_⟩:=I.tuple (show DY X.K H l xs from .inl (.inl hH));have hl:its.length=xs.length:=r.length.symm
  have ho:∃ o,s.heap.get? l=some o/\o.cls=.type "tuple" /\ o.data=.seq its.toArray n:=⟨o,e,c,dt⟩
  have em:its.toArray.isEmpty=false:=by
    cases its with
    | nil=>cases xs with
      | nil=>exact absurd rfl hne
      | cons _ _=>simp at hl
    | cons _ _=>rfl
  refine wpAny_binaryOp_repeat_ref (T := "tuple") (U := "int") (by decide) ⟨_,e,c⟩ (fun s'=>typeIs_int s' k t) Ez F.fills_int_mul F.slot_int_rmul IJ F.slot_int_index.lookup
    (call_meets F.slot_int_rmul (typeIs_int s k t) F.entry_int_rmul (F.args_int_rmul_2 _ _) (GY k t l its.toArray n)
      ⟨ho,rfl,⟨_,e,c⟩,?_⟩)
  by_cases hk:k=1
  · subst hk;exact call_meets F.slot_tuple_mul ⟨_,e,c⟩ F.entry_tuple_mul (F.args_tuple_mul_2 _ _) (Gs l its.toArray n t) ⟨ho,.ref l,H,I,rfl,q1 rfl⟩
  · refine call_meets F.slot_tuple_mul ⟨_,e,c⟩ F.entry_tuple_mul (F.args_tuple_mul_2 _ _) (Fk l its.toArray n k t (by omega) h2 (by rw [List.size_toArray,hl];exact hz) em) ⟨ho,?_⟩;have f0:List.foldl (fun x1 x2=>x1++x2) #[] (List.replicate k.toNat its.toArray)=(List.replicate k.toNat its).flatten.toArray:=by
      have:=foldl_rep its k.toNat [];rw [List.nil_append] at this;exact this
    rw [f0];refine ⟨.ref _,_,I.laid (t':=s.toks) (fun _ _ q=>Heap.get?_push_of_some _ q) (Nat.le_refl _) (o:=.tup (List.replicate k.toNat xs).flatten) ⟨?_,_,r.rep k.toNat,HC.new _ _⟩,rfl,q2 hk _ I.fresh⟩;rw [len_rep,Nat.mul_comm];exact Nat.le_trans hz (by decide)
end L4
namespace R
open PySem L2
section
variable {K:W.Frag} {g:G} {H:Hp}
theorem RA.nil {vs:List V} (h:RA K g H [] vs):vs=[]:=by unfold RA at h;exact h
theorem RA.cons {d:Dv} {ds:List Dv} {vs:List V} (h:RA K g H (d::ds) vs):∃ v r o P,vs=v::r/\o<=1/\Rep K g H o d v P/\RA K g H ds r:=by unfold RA at h;exact h
theorem RA.one {d:Dv} {vs:List V} (h:RA K g H [d] vs):∃ v o P,vs=[v]/\o<=1/\Rep K g H o d v P:=by
 obtain ⟨v,r,o,P,rfl,ho,h1,h2⟩:=h.cons;cases h2.nil;exact ⟨v,o,P,rfl,ho,h1⟩
theorem RA.two {d e:Dv} {vs:List V} (h:RA K g H [d,e] vs):∃ v o P w u R,vs=[v,w]/\o<=1/\Rep K g H o d v P/\u<=1/\Rep K g H u e w R:=by
 obtain ⟨v,r,o,P,rfl,ho,h1,h2⟩:=h.cons;obtain ⟨w,u,R,rfl,hu,h3⟩:=h2.one;exact ⟨v,o,P,w,u,R,rfl,ho,h1,hu,h3⟩
theorem rep_str {o:Nat} {l:List Nat} {v:V} {P:Fp} (h:Rep K g H o (.str l) v P):v=.str (tx l):=by unfold Rep at h;exact h.1
theorem rep_non {o:Nat} {v:V} {P:Fp} (h:Rep K g H o .non v P):v=.non:=by unfold Rep at h;exact h.1
theorem Di {o:Nat} {xs:List Dv} {v:V} {P:Fp} (ho:o<=1) (h:Rep K g H o (.lst xs) v P):∃ a us,v=.ref a/\CP K H a us/\Reps K g H 0 xs us nop/\H a=some (.lst us):=by
 unfold Rep at h;obtain ⟨a,us,P',rfl,h1,h2,_⟩:=h;rw [Nat.sub_eq_zero_of_le ho] at h2;exact ⟨a,us,rfl,.inl (.inl h1.1),h2.z,h1.1⟩
theorem EY {o:Nat} {xs:List Dv} {v:V} {P:Fp} (ho:o<=1) (h:Rep K g H o (.tup xs) v P):∃ a us,v=.ref a/\DY K H a us/\Reps K g H 0 xs us nop/\H a=some (.tup us):=by
 unfold Rep at h;obtain ⟨a,us,rfl,h1,h2⟩:=h;rw [Nat.sub_eq_zero_of_le ho] at h2;exact ⟨a,us,rfl,.inl (.inl h1),h2.z,h1⟩
theorem Pp {o:Nat} {ns:List Int} {v:V} {P:Fp} (h:Rep K g H o (.scr ns) v P):∃ a,v=.ref a/\CP K H a (ns.map V.int):=by
 unfold Rep at h;obtain ⟨⟨a,rfl,h1⟩,_⟩:=h;exact ⟨a,rfl,h1.sq⟩
theorem DL {o:Nat} (ho:o<=1) {a:Addr} {xs:List Dv} {us:List V} (h1:H a=some (.tup us)) (h2:Reps K g H 0 xs us nop):Rep K g H o (.tup xs) (.ref a) nop:=by
 unfold Rep;rw [Nat.sub_eq_zero_of_le ho];exact ⟨a,us,rfl,h1,h2⟩
theorem AV.int {o:Nat} (i:Int):AV K g H o (.int i) (.int i) H:=AV.old BK
theorem AV.bl {o:Nat} (b:Bool):AV K g H o (.bl b) (.bl b) H:=AV.old Bt
theorem AV.str {o:Nat} (l:List Nat):AV K g H o (.str l) (.str (tx l)) H:=AV.old (by unfold Rep;exact ⟨rfl,fun _ z=>z⟩)
theorem AV.tup {o:Nat} (ho:o<=1) {xs:List Dv} {vs:List V} {p:Addr} (hp:H p=none) (h:Reps K g H 0 xs vs nop):AV K g H o (.tup xs) (.ref p) (upd H p (.tup vs)):=
 have sm:=Cn hp (.tup vs)
 ⟨sm,nop,DL ho BL (h.held (Step.same (g:=g) (P:=nop) sm) FpOk.nop fun _ z=>z.elim),fun _ z=>z.elim⟩
theorem Et {xs:List Dv} {vs:List V} (h:Reps K g H 0 xs vs nop):∀ n,Reps K g H 0 (List.replicate n xs).flatten (List.replicate n vs).flatten nop
 | 0=>by simpa using Reps.nil
 | n+1=>by
  rw [List.replicate_succ,List.replicate_succ,List.flatten_cons,List.flatten_cons];exact CN h (Et h n)
theorem Kz {xs:List Dv} {vs:List V} (n:Nat) (h:Reps K g H 0 xs vs nop):Reps K g H 0 (xs.drop n) (vs.drop n) nop:=by
 have h0:=CO.mp h;exact CO.mpr ⟨by simp [h0.1],fun i d v e1 e2=>h0.2 (n+i) d v (by simpa using e1) (by simpa using e2)⟩
theorem Kx {xs:List Dv} {vs:List V} (n:Nat) (h:Reps K g H 0 xs vs nop):Reps K g H 0 (xs.take n) (vs.take n) nop:=by
 have h0:=CO.mp h;refine CO.mpr ⟨by simp [h0.1],fun i d v e1 e2=>?_⟩;rw [List.getElem?_take] at e1 e2;split at e1
 ·rename_i hi;rw [if_pos hi] at e2;exact h0.2 i d v e1 e2
 ·cases e1
theorem HX {xs:List Dv} {vs:List V} (h:Reps K g H 0 xs vs nop):Reps K g H 0 xs.reverse vs.reverse nop:=by
 have h0:=CO.mp h;refine CO.mpr ⟨by simp [h0.1],fun i d v e1 e2=>?_⟩;have hi:i < xs.length:=by simpa using (List.getElem?_eq_some_iff.mp e1).1
 rw [List.getElem?_reverse hi] at e1;rw [List.getElem?_reverse (by rw [<- h0.1];exact hi),<- h0.1] at e2;exact h0.2 _ d v e1 e2
theorem GN (ns:List Int):Reps K g H 0 (ns.map .int) (ns.map V.int) nop:=CO.mpr ⟨by simp,fun i d v e1 e2=>by
 rw [List.getElem?_map] at e1 e2;cases q:ns[i]? with
 | none=>rw [q] at e1;cases e1
 | some k=>rw [q] at e1 e2;cases e1;cases e2;exact BK⟩
def cutA {α:Type} (xs:List α) (lo hi:Option Int):List α:=(xs.drop (HT.sIx xs.length 0 lo)).take (HT.sIx xs.length xs.length hi - HT.sIx xs.length 0 lo)
theorem map_cut {α β:Type} (f:α->β) (xs:List α) (lo hi:Option Int):(cutA xs lo hi).map f=cutA (xs.map f) lo hi:=by
 unfold cutA;rw [List.map_take,List.map_drop,List.length_map]
theorem atI_map {α β:Type} {f:α->β} {xs:List α} {i:Int}:DV (xs.map f) i=(DV xs i).map f:=by
 unfold DV;rw [List.length_map];cases Jo xs.length i with
 | none=>rfl
 | some j=>show (xs.map f)[j]?=_;rw [List.getElem?_map];rfl
theorem Eu {xs:List Dv} {vs:List V} (lo hi:Option Int) (h:Reps K g H 0 xs vs nop):Reps K g H 0 (cutA xs lo hi) (EO vs lo hi) nop:=by
 unfold cutA EO;rw [h.len];exact Kx _ (Kz _ h)
theorem JP {xs:List Dv} {vs:List V} {i:Int} {d:Dv} (h:Reps K g H 0 xs vs nop) (e:DV xs i=some d):∃ v,DV vs i=some v/\Rep K g H 0 d v nop:=by
 unfold DV at e ⊢;rw [h.len] at e;cases q:Jo vs.length i with
 | none=>rw [q] at e;cases e
 | some j =>
  rw [q] at e;obtain ⟨v,R,e1,e2,_⟩:=h.get e;exact ⟨v,e1,e2.z⟩
noncomputable def CD (C:Int->Int->Bool) (f:Int->Int->Int) (x y:Dv):Option Dv:=match x,y with | .int i,.int j=>if C i j=true then some (.int (f i j)) else none | _,_=>none
noncomputable def Bv (f:Int->Int->Bool) (x y:Dv):Option Bool:=match x,y with | .int i,.int j=>some (f i j) | _,_=>none
abbrev Gn:=CD (fun _ _=>true) fun i j=>i - j
abbrev DB:=CD (fun _ j=>decide (0 < j)) fun i j=>i % j
abbrev Sk:=CD (fun _ j=>decide (0 < j) && decide (j < 1073741824)) fun i j=>i / j
abbrev Zs:=CD (fun i j=>decide (0<=j) && decide (j<=1000000) && decide (i.natAbs < 2 ^ 64)) fun i j=>i ^ j.toNat
abbrev fU:=Bv fun i j=>decide (i < j)
abbrev Su:=Bv fun i j=>decide (j < i)
abbrev gL:=Bv fun i j=>decide (j<=i)
theorem Fj {α:Type} {f:Dv->Dv->Option α} {ds:List Dv} {a:α} (h:two f ds=some a):∃ x y,ds=[x,y]/\f x y=some a:=by
 unfold two at h;split at h
 ·exact ⟨_,_,rfl,h⟩
 ·cases h
theorem Ey {f:Dv->Dv->Option Dv} {o:Nat} {r:R2} (h:∀ g H x y v w o1 o2 P R d Q,Zd g H->o1<=1->Rep K g H o1 x v P->o2<=1->Rep K g H o2 y w R->f x y=some d->(∀ v H',AV K g H o d v H'->Q v H')->r v w H Q):AH K (two f) o (Iz r):=fun g H ds vs d Q zd ra e k=>by
 obtain ⟨x,y,rfl,e⟩:=Fj e;obtain ⟨v,o1,P,w,o2,R,rfl,h1,h2,h3,h4⟩:=ra.two;exact h g H x y v w o1 o2 P R d Q zd h1 h2 h3 h4 e k
theorem IL {f:Dv->Dv->Option Bool} {r:R2} (h:∀ g H x y v w o1 o2 P R b (Q:VK),Zd g H->o1<=1->Rep K g H o1 x v P->o2<=1->Rep K g H o2 y w R->f x y=some b->Q (.bl b) H->r v w H Q):AH K (fun ds=>(two f ds).map .bl) 0 (Iz r):=fun g H ds vs d Q zd ra e k=>by
 have e:(two f ds).map Dv.bl=some d:=e;cases q:two f ds with
 | none=>rw [q] at e;cases e
 | some b =>
  rw [q] at e;cases e;obtain ⟨x,y,rfl,e2⟩:=Fj q;obtain ⟨v,o1,P,w,o2,R,rfl,h1,h2,h3,h4⟩:=ra.two;exact h g H x y v w o1 o2 P R b Q zd h1 h2 h3 h4 e2 (k _ _ (AV.bl _))
theorem IM {C:Int->Int->Bool} {C':Int->Int->Prop} {f:Int->Int->Int} {o:Nat} (hc:∀ i j,C i j=true->C' i j):AH K (two (CD C f)) o (Iz (rI C' fun i j=>.int (f i j))):=Ey fun g H x y v w o1 o2 P R d Q zd _ h1 _ h2 e k=>by
 unfold CD at e;split at e
 ·split at e
  ·rename_i c;cases e;rw [rep_int h1,rep_int h2];exact ⟨_,_,rfl,rfl,hc _ _ c,k _ _ (AV.int _)⟩
  ·cases e
 ·cases e
theorem UB {f:Int->Int->Int} {o:Nat}:AH K (two (CD (fun _ _=>true) f)) o (Iz (Sr fun i j=>.int (f i j))):=Ey fun g H x y v w o1 o2 P R d Q zd _ h1 _ h2 e k=>by
 unfold CD at e;split at e
 ·cases e;rw [rep_int h1,rep_int h2];exact ⟨_,_,rfl,rfl,k _ _ (AV.int _)⟩
 ·cases e
theorem IP {f:Int->Int->Bool}:AH K (fun ds=>(two (Bv f) ds).map .bl) 0 (Iz (Sr fun i j=>.bl (f i j))):=IL fun g H x y v w o1 o2 P R b Q zd _ h1 _ h2 e k=>by
 unfold Bv at e;split at e
 ·cases e;rw [rep_int h1,rep_int h2];exact ⟨_,_,rfl,rfl,k⟩
 ·cases e
noncomputable def Af (x y:Dv):Option Dv:=match x,y with
 | .int i,.int j=>some (.int (i+j))
 | .str a,.str b=>if a.length+b.length<=1000000 then some (.str (a++b)) else none
 | .lst xs,.lst ys=>if xs.length+ys.length<=1000000 then some (.lst (xs++ys)) else none
 | .tup xs,.tup ys=>if xs.length+ys.length<=1000000 then some (.tup (xs++ys)) else none
 | _,_=>none
theorem YA:AH K (two Af) 1 (Iz (JS K)):=Ey fun g H x y v w o1 o2 P R d Q zd l1 h1 l2 h2 e k=>by
 unfold Af at e;split at e
 ·cases e;rw [rep_int h1,rep_int h2];exact Sf (k _ _ (AV.int _))
 ·split at e
  ·rename_i hl;cases e;rw [rep_str h1,rep_str h2];refine Sd (by rw [Bo,Bo];exact hl) ?_;rw [Kf];exact k _ _ (AV.str _)
  ·cases e
 ·split at e
  ·rename_i hl;cases e;obtain ⟨a,us,rfl,_,hx,ha⟩:=Di l1 h1;obtain ⟨b,ws,rfl,_,hy,hb⟩:=Di l2 h2;exact Se ha hb (by rw [<- hx.len,<- hy.len];exact hl) fun p hp=>k _ _ (AV.lst zd (CN hx hy) hp)
  ·cases e
 ·split at e
  ·rename_i hl;cases e;obtain ⟨a,us,rfl,ha,hx,ha'⟩:=EY l1 h1;obtain ⟨b,ws,rfl,hb,hy,hb'⟩:=EY l2 h2;have al:=CN hx hy
   by_cases hu:us=[]
   ·subst hu;exact .inr ⟨a,b,ws,rfl,rfl,ha,hb,k _ _ (AV.old (DL (Nat.le_refl 1) hb' al))⟩
   ·refine .inl (.inr (.inr (.inr ⟨a,b,us,ws,rfl,rfl,ha,hb,hu,by rw [<- hx.len,<- hy.len];exact Nat.le_trans hl (by decide),fun hw=>?_,fun _ p hp=>k _ _ (AV.tup (Nat.le_refl 1) hp al)⟩)));subst hw;rw [List.append_nil] at al;exact k _ _ (AV.old (DL (Nat.le_refl 1) ha' al))
  ·cases e
 ·cases e
noncomputable def big (i:Int):Bool:=decide (-(2 ^ 64) < i) && decide (i < 2 ^ 64)
def Bw (x y:Dv):Option Dv:=match x,y with
 | .int i,.int j=>if (big i || big j)=true then some (.int (i * j)) else none
 | .lst xs,.int k=>if xs.length * k.toNat<=1000000/\k < 1000000/\-1000000 < k then some (.lst (List.replicate k.toNat xs).flatten) else none
 | .tup xs,.int k=>if xs≠[]/\1<=k/\k < 1000000/\xs.length * k.toNat<=1000000 then some (.tup (List.replicate k.toNat xs).flatten) else none
 | _,_=>none
theorem Xw:AH K (two Bw) 1 (Iz (fun x y H Q=>(rI Vv fun i j=>.int (i * j)) x y H Q\/bK x y H Q\/L4.rRepT x y H Q)):=Ey fun g H x y v w o1 o2 P R d Q zd l1 h1 l2 h2 e k=>by
 unfold Bw at e;split at e
 ·split at e
  ·rename_i c;cases e;rw [rep_int h1,rep_int h2];refine .inl ⟨_,_,rfl,rfl,?_,k _ _ (AV.int _)⟩;rw [Bool.or_eq_true] at c;unfold big at c;rw [Bool.and_eq_true,Bool.and_eq_true,decide_eq_true_eq,decide_eq_true_eq,decide_eq_true_eq,decide_eq_true_eq] at c;exact c
  ·cases e
 ·split at e
  ·rename_i hl;cases e;obtain ⟨a,us,rfl,ha,hx,ha'⟩:=Di l1 h1;rw [rep_int h2];exact .inr (.inl ⟨a,_,us,rfl,rfl,ha',by omega,by omega,by rw [<- hx.len];exact Nat.le_trans hl.1 (by decide),fun p hp=>k _ _ (AV.lst zd (Et hx _) hp)⟩)
  ·cases e
 ·split at e
  ·rename_i hl;cases e;obtain ⟨a,us,rfl,ha,hx,ha'⟩:=EY l1 h1;rw [rep_int h2];refine .inr (.inr ⟨a,_,us,rfl,rfl,ha',?_,hl.2.1,by omega,by rw [<- hx.len];exact hl.2.2.2,fun z=>?_,fun _ p hp=>k _ _ (AV.tup (Nat.le_refl 1) hp (Et hx _))⟩)
   ·intro z;have:=hx.len;rw [z] at this;exact hl.1 (List.eq_nil_of_length_eq_zero this)
   ·subst z;have:∀ (l:List Dv),(List.replicate (Int.toNat 1) l).flatten=l:=fun l=>by simp
    rw [this] at k;exact k _ _ (AV.old (DL (Nat.le_refl 1) ha' hx))
  ·cases e
 ·cases e
noncomputable def An (x:Dv):Option Dv:=match x with
 | .str l=>if l.length<=1000000 then some (.int l.length) else none
 | .lst xs=>some (.int xs.length)
 | .tup xs=>some (.int xs.length)
 | .scr ns=>some (.int ns.length)
 | .dct ks _=>some (.int ks.length)
 | _=>none
theorem Qc {α:Type} {f:Dv->Option α} {ds:List Dv} {a:α} (h:one f ds=some a):∃ x,ds=[x]/\f x=some a:=by
 unfold one at h;split at h
 ·exact ⟨_,rfl,h⟩
 ·cases h
theorem Cq {f:Dv->Option Dv} {o:Nat} {r:Og} (h:∀ g H x v o1 P d Q,Zd g H->o1<=1->Rep K g H o1 x v P->f x=some d->(∀ v H',AV K g H o d v H'->Q v H')->r [v] H Q):AH K (one f) o r:=fun g H ds vs d Q zd ra e k=>by
 obtain ⟨x,rfl,e⟩:=Qc e;obtain ⟨v,o1,P,rfl,h1,h2⟩:=ra.one;exact h g H x v o1 P d Q zd h1 h2 e k
theorem Xx {o:Nat}:AH K (one An) o (fun xs H Q=>NQ K xs H Q\/WM xs H Q):=Cq fun g H x v o1 P d Q zd l1 h1 e k=>by
 unfold An at e;split at e
 ·split at e
  ·rename_i l hl;cases e;rw [rep_str h1];refine .inl (Nn (by rw [Bo];exact hl) ?_);rw [Bo];exact k _ _ (AV.int _)
  ·cases e
 ·cases e;obtain ⟨a,us,rfl,ha,hx,ha'⟩:=Di l1 h1;refine .inl (Ue ha' ?_);rw [<- hx.len];exact k _ _ (AV.int _)
 ·cases e;obtain ⟨a,us,rfl,ha,hx,ha'⟩:=EY l1 h1;refine .inl ⟨_,_,rfl,.inr ⟨us,ha,rfl⟩,?_⟩;rw [<- hx.len];exact k _ _ (AV.int _)
 ·cases e;obtain ⟨a,rfl,ha⟩:=Pp h1;refine .inl (Qo ha ?_);rw [List.length_map];exact k _ _ (AV.int _)
 ·cases e;obtain ⟨a,us,rfl,ha,hl,hx⟩:=VF h1;refine .inr ⟨a,_,rfl,ha,?_⟩;rename_i ks xs;have:(ks.zip us).length=ks.length:=by rw [List.length_zip,hl,hx.len,Nat.min_self]
  rw [this];exact k _ _ (AV.int _)
 ·cases e
def AA (x y:Dv):Option Dv:=match x,y with
 | .lst xs,.int i=>DV xs i
 | .tup xs,.int i=>DV xs i
 | .scr ns,.int i=>(DV ns i).map .int
 | .str l,.int i=>if l.length<=1000000 then (DV l i).map fun c=>.str [c] else none
 | .dct ks ds,k=>(FK k).bind fun k=>DU k ks ds
 | _,_=>none
theorem Xz:AH K (two AA) 0 (Iz fun x y H Q=>Xj K x y H Q\/gE x y H Q):=Ey fun g H x y v w o1 o2 P R d Q zd l1 h1 l2 h2 e k=>by
 unfold AA at e;split at e
 ·obtain ⟨a,us,rfl,ha,hx,ha'⟩:=Di l1 h1;rw [rep_int h2];obtain ⟨u,e2,h3⟩:=JP hx e;exact .inl (Ti ha' e2 (k _ _ (AV.old h3)))
 ·obtain ⟨a,us,rfl,ha,hx,ha'⟩:=EY l1 h1;rw [rep_int h2];obtain ⟨u,e2,h3⟩:=JP hx e;exact .inl (.inr (.inl ⟨a,us,_,u,rfl,rfl,ha,e2,k _ _ (AV.old h3)⟩))
 ·rename_i ns i;obtain ⟨a,rfl,ha⟩:=Pp h1;rw [rep_int h2];cases q:DV ns i with
  | none=>rw [q] at e;cases e
  | some j =>
   rw [q] at e;cases e;exact .inl (Xi ha (by rw [atI_map,q];rfl) (k _ _ (AV.int _)))
 ·rename_i l i;split at e
  ·rename_i hl;rw [rep_str h1,rep_int h2];cases q:DV l i with
   | none=>rw [q] at e;cases e
   | some c =>
    rw [q] at e;cases e;exact .inl (Th (by rw [Bo];exact hl) (by rw [MA];exact q) (k _ _ (AV.str [c])))
  ·cases e
 ·obtain ⟨kk,ek,e⟩:=bind_some' e;obtain ⟨a,us,rfl,ha,hl,hx⟩:=VF h1;obtain ⟨u,e2,h3⟩:=KD hx e;rw [IY h2 ek];exact .inr ⟨a,u,rfl,e2▸HD.k ha,k _ _ (AV.old h3)⟩
 ·cases e
def KU (x:Dv) (lo hi:Option Int):Option Dv:=match x with
 | .str l=>if l.length<=1000000 then some (.str (Le l lo hi)) else none
 | .lst xs=>some (.lst (cutA xs lo hi))
 | .tup xs=>some (.tup (cutA xs lo hi))
 | .scr ns=>some (.lst ((cutA ns lo hi).map .int))
 | _=>none
theorem bU (lo hi:Option Int):AH K (one fun d=>KU d lo hi) 1 (dW fun x H Q=>NP K x lo hi H Q):=Cq fun g H x v o1 P d Q zd l1 h1 e k=>by
 show NP K v lo hi H Q;cases x with
 | str l =>
  simp only [KU.eq_def] at e;split at e
  ·rename_i hl;cases e;rw [rep_str h1];refine TU (by rw [Bo];exact hl) ?_;rw [Oz];exact k _ _ (AV.str _)
  ·cases e
 | lst xs =>
  cases e;obtain ⟨a,us,rfl,ha,hx,ha'⟩:=Di l1 h1;exact TV ha' fun p hp=>k _ _ (AV.lst zd (Eu lo hi hx) hp)
 | tup xs =>
  cases e;obtain ⟨a,us,rfl,ha,hx,ha'⟩:=EY l1 h1;have al:=Eu lo hi hx
  by_cases w:HT.sIx us.length 0 lo=0/\HT.sIx us.length us.length hi=us.length
  ·refine .inr ⟨a,us,rfl,ha,w,k _ _ (AV.old ?_)⟩;have ec:EO us lo hi=us:=by unfold EO;rw [w.1,w.2];simp
   rw [ec] at al;exact DL (Nat.le_refl 1) ha' al
  ·exact .inl (.inr (.inr ⟨a,us,rfl,ha,w,fun p hp=>k _ _ (AV.tup (Nat.le_refl 1) hp al)⟩))
 | scr ns =>
  cases e;obtain ⟨a,rfl,ha⟩:=Pp h1;refine XQ ha fun p hp=>k _ _ (AV.lst zd ?_ hp)
  rw [map_cut];exact Eu lo hi (GN ns)
 | _=>cases e
end
mutual
noncomputable def toD:Dv->L3.D
 | .bl b=>.fl (.bl b)
 | .int i=>.fl (.int i)
 | .str l=>.fl (.str (tx l))
 | .tup xs=>.tup (toDs xs)
 | .lst xs=>.lst (toDs xs)
 | _=>.fl .non
noncomputable def toDs:List Dv->List L3.D
 | []=>[]
 | d::ds=>toD d::toDs ds
end
mutual
noncomputable def Dv.cmp:Dv->Bool
 | .non | .bl _ | .int _ | .str _=>true
 | .tup xs=>Am xs
 | .lst xs=>Am xs
 | _=>false
noncomputable def Am:List Dv->Bool
 | []=>true
 | d::ds=>d.cmp && Am ds
end
mutual
noncomputable def Dv.dep:Dv->Nat
 | .tup xs=>BB xs+1
 | .lst xs=>BB xs+1
 | _=>0
noncomputable def BB:List Dv->Nat
 | []=>0
 | d::ds=>max d.dep (BB ds)
end
mutual
noncomputable def eqV:Dv->Dv->Bool
 | .non,.non=>true
 | .bl a,.bl b=>a == b
 | .bl a,.int b=>(if a then 1 else 0) == b
 | .int a,.bl b=>a == (if b then 1 else 0)
 | .int a,.int b=>a == b
 | .str a,.str b=>a == b
 | .tup xs,.tup ys=>eqVs xs ys
 | .lst xs,.lst ys=>eqVs xs ys
 | _,_=>false
noncomputable def eqVs:List Dv->List Dv->Bool
 | [],[]=>true
 | x::xs,y::ys=>eqV x y && eqVs xs ys
 | _,_=>false
end
mutual
theorem Jz:∀ (d e:Dv),d.cmp=true->e.cmp=true->L3.eqD (toD d) (toD e)=eqV d e
 | .non,e,h,k | .bl _,e,h,k | .int _,e,h,k=>by cases e<;>first | (unfold toD L3.eqD eqV;rfl) | (unfold Dv.cmp at k;cases k)
 | .str l,e,h,k=>by
  cases e with
  | str m=>unfold toD L3.eqD eqV;rw [L2.eqV_str];exact (Bool.beq_eq_decide_eq l m).symm
  | _=>first | (unfold toD L3.eqD eqV;rfl) | (unfold Dv.cmp at k;cases k)
 | .tup xs,e,h,k=>by
  cases e with
  | tup ys=>unfold toD L3.eqD eqV;unfold Dv.cmp at h k;exact LZ xs ys h k
  | _=>first | (unfold toD L3.eqD eqV;rfl) | (unfold Dv.cmp at k;cases k)
 | .lst xs,e,h,k=>by
  cases e with
  | lst ys=>unfold toD L3.eqD eqV;unfold Dv.cmp at h k;exact LZ xs ys h k
  | _=>first | (unfold toD L3.eqD eqV;rfl) | (unfold Dv.cmp at k;cases k)
 | .dct _ _,e,h,k | .ref _,e,h,k | .scr _,e,h,k | .ty _,e,h,k | .mtp _,e,h,k | .dti _,e,h,k=>by unfold Dv.cmp at h;cases h
theorem LZ:∀ (d e:List Dv),Am d=true->Am e=true->L3.eqDs (toDs d) (toDs e)=eqVs d e
 | [],[],_,_=>by unfold toDs L3.eqDs eqVs;rfl
 | [],_::_,_,_=>by simp only [toDs,L3.eqDs,eqVs]
 | _::_,[],_,_=>by simp only [toDs,L3.eqDs,eqVs]
 | x::xs,y::ys,h,k=>by
  unfold Am at h k;rw [Bool.and_eq_true] at h k;simp only [toDs,L3.eqDs,eqVs];rw [Jz x y h.1 k.1,LZ xs ys h.2 k.2]
end
mutual
theorem dep_D:∀ (d:Dv),(toD d).dep=d.dep
 | .non | .bl _ | .int _ | .str _ | .dct _ _ | .ref _ | .scr _ | .ty _ | .mtp _ | .dti _=>by unfold toD L3.D.dep Dv.dep;rfl
 | .tup xs=>by unfold toD L3.D.dep Dv.dep;rw [deps_D xs]
 | .lst xs=>by unfold toD L3.D.dep Dv.dep;rw [deps_D xs]
theorem deps_D:∀ (d:List Dv),L3.depL (toDs d)=BB d
 | []=>by unfold toDs L3.depL BB;rfl
 | x::xs=>by simp only [toDs,L3.depL,BB];rw [dep_D x,deps_D xs]
end
section
variable {K:W.Frag} {g:G} {H:Hp}
mutual
theorem Rep.is:∀ {o:Nat} {d:Dv} {v:V} {P:Fp},Rep K g H o d v P->d.cmp=true->L3.Is K H v (toD d)
 | _,.non,v,P,h,_=>by rw [rep_non h];unfold toD L3.Is;exact ⟨rfl,rfl⟩
 | _,.bl b,v,P,h,_=>by rw [rep_bl h];unfold toD L3.Is;exact ⟨rfl,rfl⟩
 | _,.int i,v,P,h,_=>by rw [rep_int h];unfold toD L3.Is;exact ⟨rfl,rfl⟩
 | _,.str l,v,P,h,_=>by rw [rep_str h];unfold toD L3.Is;exact ⟨rfl,rfl⟩
 | _,.tup xs,v,P,h,c=>by
  unfold Rep at h;obtain ⟨a,vs,rfl,h1,h2⟩:=h;unfold Dv.cmp at c;unfold toD L3.Is;exact ⟨a,vs,rfl,.inl (.inl h1),Reps.isL h2 c⟩
 | _,.lst xs,v,P,h,c=>by
  unfold Rep at h;obtain ⟨a,vs,P',rfl,h1,h2,_⟩:=h;unfold Dv.cmp at c;unfold toD L3.Is;exact ⟨a,vs,rfl,.inl (.inl h1.1),Reps.isL h2 c⟩
 | _,.dct _ _,v,P,h,c | _,.ref _,v,P,h,c | _,.scr _,v,P,h,c | _,.ty _,v,P,h,c | _,.mtp _,v,P,h,c | _,.dti _,v,P,h,c=>by unfold Dv.cmp at c;cases c
theorem Reps.isL:∀ {o:Nat} {d:List Dv} {v:List V} {P:Fp},Reps K g H o d v P->Am d=true->L3.IsL K H v (toDs d)
 | _,[],v,P,h,_=>by
  unfold Reps at h;obtain ⟨rfl,_⟩:=h;unfold toDs L3.IsL
  trivial
 | _,x::xs,v,P,h,c=>by
  unfold Reps at h;obtain ⟨u,r,P1,P2,rfl,h1,h2,_⟩:=h;unfold Am at c;rw [Bool.and_eq_true] at c;unfold toDs L3.IsL;exact ⟨Rep.is h1 c.1,Reps.isL h2 c.2⟩
end
def SZ (neg:Bool) (x y:Dv):Option Bool:=if (x.cmp && y.cmp && decide (x.dep<=150))=true then some (if neg then !eqV x y else eqV x y) else none
abbrev Do:=SZ false
abbrev aE:=SZ true
theorem QN {neg:Bool}:AH K (fun ds=>(two (SZ neg) ds).map .bl) 0 (Iz (L3.rEqA K neg)):=IL fun g H x y v w o1 o2 P R b Q zd _ h1 _ h2 e k=>by
 unfold SZ at e;split at e
 ·rename_i c;cases e;rw [Bool.and_eq_true,Bool.and_eq_true,decide_eq_true_eq] at c;refine ⟨toD x,toD y,by rw [dep_D];exact c.2,h1.is c.1.1,h2.is c.1.2,?_⟩;rw [Jz x y c.1.1 c.1.2];exact k
 ·cases e
noncomputable def dZ:Dv->Option (List Dv)
 | .lst xs=>some xs
 | .tup xs=>some xs
 | .mtp ls=>some (ls.map .str)
 | _=>none
def IV (e:Dv) (ds:List Dv):Bool:=ds.any fun d=>eqV d e
def Ir (neg:Bool) (e s:Dv):Option Bool:=match e,s with
 | .str x,.str l=>some (if neg then !Q.sub1 x l else Q.sub1 x l)
 | e,.dct ks ds=>(FK e).bind fun k=>some (if neg then !(DU k ks ds).isSome else (DU k ks ds).isSome)
 | e,s=>match dZ s with
  | some xs=>if (e.cmp && Am xs && decide (BB xs<=150))=true then some (if neg then !IV e xs else IV e xs) else none
  | none=>none
abbrev eD:=Ir false
abbrev Gj:=Ir true
theorem anyD (e:Dv) (he:e.cmp=true):∀ (ds:List Dv),Am ds=true->((toDs ds).any fun d=>L3.eqD d (toD e))=IV e ds
 | [],_=>by unfold toDs IV;rfl
 | d::ds,h=>by
  unfold Am at h;rw [Bool.and_eq_true] at h;unfold IV;simp only [toDs,List.any_cons];rw [Jz d e h.1 he,anyD e he ds h.2];rfl
theorem Ky (ls:List (List Nat)):Reps K g H 0 (ls.map .str) (ls.map fun l=>V.str (tx l)) nop:=CO.mpr ⟨by simp,fun i d v e1 e2=>by
 rw [List.getElem?_map] at e1 e2;cases q:ls[i]? with
 | none=>rw [q] at e1;cases e1
 | some k=>rw [q] at e1 e2;cases e1;cases e2;unfold Rep;exact ⟨rfl,fun _ z=>z⟩⟩
theorem QM {neg:Bool}:AH K (fun ds=>(two (Ir neg) ds).map .bl) 0 (Iz fun x y H q=>Q.rInQ K neg x y H q\/Xm neg x y H q):=IL fun g H x y v w o1 o2 P R b Q zd l1 h1 l2 h2 e k=>by
  unfold Ir at e;split at e
  · cases e;rw [rep_str h1,rep_str h2];exact .inl (.inl ⟨_,_,rfl,rfl,k⟩)
  · obtain ⟨kk,ek,e⟩:=bind_some' e;cases e;obtain ⟨a,us,rfl,ha,hl,hx⟩:=VF h2;rw [IY h1 ek];refine .inr ⟨a,_,rfl,HD.k ha,?_⟩;rw [Hn hl hx.len];exact k
  · rename_i a s _;split at e
    · rename_i xs es;split at e
      · rename_i c;cases e;rw [Bool.and_eq_true,Bool.and_eq_true,decide_eq_true_eq] at c;have go:∀ p ys,w=.ref p->(CP K H p ys\/DY K H p ys)->Reps K g H 0 xs ys nop->L3.rInA K neg v w H Q:=by
          rintro p ys rfl hs hr;refine ⟨p,ys,toDs xs,toD x,rfl,hs,hr.isL c.1.2,h1.is c.1.1,by rw [deps_D];exact c.2,?_⟩;rw [anyD x c.1.1 xs c.1.2];exact k
        cases y with
        | lst ys =>
          cases es;obtain ⟨p,us,rfl,ha,hx,_⟩:=Di l2 h2;exact .inl (.inr (go p us rfl (.inl ha) hx))
        | tup ys =>
          cases es;obtain ⟨p,us,rfl,ha,hx,_⟩:=EY l2 h2;exact .inl (.inr (go p us rfl (.inr ha) hx))
        | mtp ls =>
          cases es;unfold Rep at h2;obtain ⟨⟨p,rfl,hm⟩,_⟩:=h2;exact .inl (.inr (go p _ rfl (.inr (.inr hm)) (Ky ls)))
        | _=>cases es
      · cases e
    · cases e
end
noncomputable def Sz:List Dv->Option (List Bool)
 | []=>some []
 | .bl b::ds=>(Sz ds).map (b::·)
 | _=>none
noncomputable def FH:List Dv->Option (List Int)
 | []=>some []
 | .int b::ds=>(FH ds).map (b::·)
 | _=>none
noncomputable def HG:List Dv->Option (List (List Nat))
 | []=>some []
 | .str b::ds=>(HG ds).map (b::·)
 | _=>none
section
variable {K:W.Frag} {g:G} {H:Hp}
theorem Ow:∀ {ds:List Dv} {bs:List Bool} {vs:List V},Reps K g H 0 ds vs nop->Sz ds=some bs->vs=bs.map V.bl
 | [],bs,vs,h,e=>by cases e;exact BJ h
 | d::ds,bs,vs,h,e=>by
  obtain ⟨v,r,rfl,h1,h2⟩:=BF h;cases d<;>simp only [Sz,Option.map_eq_some_iff,reduceCtorEq] at e;obtain ⟨bs',e,rfl⟩:=e;rw [rep_bl h1,Ow h2 e];rfl
theorem DC:∀ {ds:List Dv} {bs:List Int} {vs:List V},Reps K g H 0 ds vs nop->FH ds=some bs->vs=bs.map V.int
 | [],bs,vs,h,e=>by cases e;exact BJ h
 | d::ds,bs,vs,h,e=>by
  obtain ⟨v,r,rfl,h1,h2⟩:=BF h;cases d<;>simp only [FH,Option.map_eq_some_iff,reduceCtorEq] at e;obtain ⟨bs',e,rfl⟩:=e;rw [rep_int h1,DC h2 e];rfl
theorem HE:∀ {ds:List Dv} {bs:List (List Nat)} {vs:List V},Reps K g H 0 ds vs nop->HG ds=some bs->vs=(bs.map tx).map V.str
 | [],bs,vs,h,e=>by cases e;exact BJ h
 | d::ds,bs,vs,h,e=>by
  obtain ⟨v,r,rfl,h1,h2⟩:=BF h;cases d<;>simp only [HG,Option.map_eq_some_iff,reduceCtorEq] at e;obtain ⟨bs',e,rfl⟩:=e;rw [rep_str h1,HE h2 e];rfl
def gZ (x:Dv):Option Dv:=match x with | .lst xs=>(Sz xs).map fun bs=>.bl (bs.all id) | _=>none
def Oe (x:Dv):Option Dv:=match x with
 | .lst xs=>(FH xs).map fun ns=>.int ns.sum
 | .tup xs=>(FH xs).map fun ns=>.int ns.sum
 | _=>none
theorem Xu {o:Nat}:AH K (one Oe) o (Q.rSumQ K):=Cq fun g H x v o1 P d Q zd l1 h1 e k=>by
 unfold Oe at e;split at e
 ·simp only [Option.map_eq_some_iff] at e;obtain ⟨bs,e,rfl⟩:=e;obtain ⟨p,us,rfl,ha,hx,_⟩:=Di l1 h1;rw [DC hx e] at ha;exact ⟨p,bs,rfl,.inl ha,k _ _ (AV.int _)⟩
 ·simp only [Option.map_eq_some_iff] at e;obtain ⟨bs,e,rfl⟩:=e;obtain ⟨p,us,rfl,ha,hx,_⟩:=EY l1 h1;rw [DC hx e] at ha;exact ⟨p,bs,rfl,.inr ha,k _ _ (AV.int _)⟩
 ·cases e
def FO (x:Dv):Option Dv:=match x with
 | .lst xs=>match FH xs with | some (n::ns)=>some (.int (Q.mxI (n::ns))) | _=>none
 | _=>none
theorem Tu {o:Nat}:AH K (one FO) o (WL K):=Cq fun g H x v o1 P d Q zd l1 h1 e k=>by
 unfold FO at e;split at e
 ·split at e
  ·rename_i n ns e1;cases e;obtain ⟨p,us,rfl,ha,hx,_⟩:=Di l1 h1;rw [DC hx e1] at ha;refine ⟨p,n::ns,rfl,ha,by simp,fun M hM hall=>?_⟩;obtain ⟨m1,m2⟩:=_root_.Q.mxI_spec (n::ns) (by simp);have:M=_root_.Q.mxI (n::ns):=Int.le_antisymm (m2 M hM) (hall _ m1);rw [this];exact k _ _ (AV.int _)
  ·cases e
 ·cases e
noncomputable def Cc (x y:Dv):Option Dv:=match x,y with | .int i,.int j=>some (.int (if j > i then j else i)) | _,_=>none
theorem EG {f:Dv->Dv->Option Dv} {o:Nat} {r:Og} (h:∀ g H x y v w o1 o2 P R d Q,Zd g H->o1<=1->Rep K g H o1 x v P->o2<=1->Rep K g H o2 y w R->f x y=some d->(∀ v H',AV K g H o d v H'->Q v H')->r [v,w] H Q):AH K (two f) o r:=fun g H ds vs d Q zd ra e k=>by
 obtain ⟨x,y,rfl,e⟩:=Fj e;obtain ⟨v,o1,P,w,o2,R,rfl,h1,h2,h3,h4⟩:=ra.two;exact h g H x y v w o1 o2 P R d Q zd h1 h2 h3 h4 e k
theorem Tv {o:Nat}:AH K (two Cc) o (fun xs H Q=>∃ i j,xs=[.int i,.int j]/\Q (.int (if j > i then j else i)) H):=EG fun g H x y v w o1 o2 P R d Q zd _ h1 _ h2 e k=>by
 unfold Cc at e;split at e
 ·cases e;rw [rep_int h1,rep_int h2];exact ⟨_,_,rfl,k _ _ (AV.int _)⟩
 ·cases e
noncomputable def EU (x:Dv):Option Dv:=match x with | .int i=>some (.int i) | .bl b=>some (.int (if b then 1 else 0)) | _=>none
theorem UA {o:Nat}:AH K (one EU) o (fun xs H Q=>(∃ i,xs=[.int i]/\Q (.int i) H)\/∃ k,xs=[.bl k]/\Q (.int (if k then 1 else 0)) H):=Cq fun g H x v o1 P d Q zd l1 h1 e k=>by
 unfold EU at e;split at e
 ·cases e;rw [rep_int h1];exact .inl ⟨_,rfl,k _ _ (AV.int _)⟩
 ·cases e;rw [rep_bl h1];exact .inr ⟨_,rfl,k _ _ (AV.int _)⟩
 ·cases e
noncomputable def AZ (x:Dv):Option Dv:=match x with | .lst xs=>some (.tup xs) | .tup xs=>some (.tup xs) | _=>none
theorem QK:AH K (one AZ) 1 (JR K):=Cq fun g H x v o1 P d Q zd l1 h1 e k=>by
 unfold AZ at e;split at e
 ·cases e;obtain ⟨p,us,rfl,ha,hx,_⟩:=Di l1 h1;exact ⟨p,us,rfl,.inl ⟨ha,fun l hl=>k _ _ (AV.tup (Nat.le_refl 1) hl hx)⟩⟩
 ·cases e;obtain ⟨p,us,rfl,ha,hx,ha'⟩:=EY l1 h1;exact ⟨p,us,rfl,.inr ⟨ha,k _ _ (AV.old (DL (Nat.le_refl 1) ha' hx))⟩⟩
 ·cases e
noncomputable def KZ (x:Dv):Option Dv:=match x with | .lst xs=>some (.lst xs) | .tup xs=>some (.lst xs) | .scr ns=>some (.lst (ns.map .int)) | _=>none
theorem Tw:AH K (one KZ) 1 (MM K):=Cq fun g H x v o1 P d Q zd l1 h1 e k=>by
 unfold KZ at e;split at e
 ·cases e;obtain ⟨p,us,rfl,ha,hx,_⟩:=Di l1 h1;exact ⟨p,us,rfl,.inl ha,fun l hl=>k _ _ (AV.lst zd hx hl)⟩
 ·cases e;obtain ⟨p,us,rfl,ha,hx,_⟩:=EY l1 h1;exact ⟨p,us,rfl,.inr ha,fun l hl=>k _ _ (AV.lst zd hx hl)⟩
 ·cases e;obtain ⟨p,rfl,ha⟩:=Pp h1;exact ⟨p,_,rfl,.inl ha,fun l hl=>k _ _ (AV.lst zd (GN _) hl)⟩
 ·cases e
def Gp (x y:Dv):Option Dv:=match x,y with
 | .str sep,.lst xs=>match HG xs with
  | some ys=>if (ys.map List.length).sum+ys.length * sep.length<=1000000 then some (.str (jn sep ys)) else none
  | none=>none
 | _,_=>none
theorem Tz {o:Nat}:AH K (two Gp) o (Zw (QD K)):=EG fun g H x y v w o1 o2 P R d Q zd l1 h1 l2 h2 e k=>by
 unfold Gp at e;split at e
 ·split at e
  ·rename_i sep xs _ ys e1;split at e
   ·rename_i hz;cases e;obtain ⟨a,us,rfl,ha,hx,_⟩:=Di l2 h2;rw [rep_str h1];rw [HE hx e1] at ha;refine ⟨tx sep,a,ys.map tx,rfl,rfl,ha,?_,?_⟩
    ·rw [XC,List.length_map,Bo];exact Nat.le_trans hz (by decide)
    ·rw [aM];exact k _ _ (AV.str _)
   ·cases e
  ·cases e
 ·cases e
noncomputable def FF (x:Dv):Option Dv:=match x with
 | .str l=>if (l.all (fun c=>decide (c < 128)) && decide (l.length<=1000000))=true then some (.str (l.map PyProof.Rows.up1)) else none
 | _=>none
theorem QJ {o:Nat}:AH K (one FF) o (Zw QA):=Cq fun g H x v o1 P d Q zd l1 h1 e k=>by
 unfold FF at e;split at e
 ·split at e
  ·rename_i l c;cases e;rw [Bool.and_eq_true,decide_eq_true_eq,List.all_eq_true] at c;rw [rep_str h1];exact ⟨l,rfl,rfl,fun x hx=>of_decide_eq_true (c.1 x hx),c.2,k _ _ (AV.str _)⟩
  ·cases e
 ·cases e
def FQ (e:Dv):List Dv->Option Nat
 | []=>none
 | d::ds=>if eqV d e=true then some 0 else (FQ e ds).map (·+1)
theorem Hd (e:Dv):∀ (ds:List Dv) (j:Nat),FQ e ds=some j->(∃ d,ds[j]?=some d/\eqV d e=true)/\∀ (i:Nat) (d:Dv),i < j->ds[i]?=some d->eqV d e=false
 | [],j,h=>by cases h
 | d::ds,j,h=>by
  unfold FQ at h;split at h
  ·rename_i c;cases h;exact ⟨⟨d,rfl,c⟩,fun i d hi=>by omega⟩
  ·rename_i c;simp only [Option.map_eq_some_iff] at h;obtain ⟨k,hk,rfl⟩:=h;obtain ⟨h1,h2⟩:=Hd e ds k hk;refine ⟨by simpa using h1,fun i d' hi hd=>?_⟩;cases i with
   | zero=>simp at hd;subst hd;simpa using c
   | succ i=>exact h2 i d' (by omega) (by simpa using hd)
theorem toDs_get:∀ (ds:List Dv) (i:Nat),(toDs ds)[i]?=(ds[i]?).map toD
 | [],i=>by unfold toDs;simp
 | d::ds,0=>by unfold toDs;simp
 | d::ds,i+1=>by
  have:=toDs_get ds i;simp only [toDs,List.getElem?_cons_succ];exact this
theorem HI {ds:List Dv} (h:Am ds=true):∀ {i:Nat} {d:Dv},ds[i]?=some d->d.cmp=true:=by
 induction ds with
 | nil=>intro i d e;simp at e
 | cons x xs ih =>
  unfold Am at h;rw [Bool.and_eq_true] at h;intro i d e;cases i with
  | zero=>simp at e;subst e;exact h.1
  | succ i=>exact ih h.2 (i:=i) (by simpa using e)
theorem Qu {e:Dv} {ds:List Dv} {j:Nat} (he:e.cmp=true) (hd:Am ds=true) (h:FQ e ds=some j) :
    (∃ d,(toDs ds)[j]?=some d/\L3.eqD d (toD e)=true)/\∀ (m:Nat) (d:L3.D),m < j->(toDs ds)[m]?=some d->L3.eqD d (toD e)=false:=by
  obtain ⟨⟨d,h1,h2⟩,h3⟩:=Hd e ds j h;refine ⟨⟨toD d,by rw [toDs_get,h1];rfl,by rw [Jz d e (HI hd h1) he];exact h2⟩,fun m d' hm hd'=>?_⟩;rw [toDs_get] at hd';cases q:ds[m]? with
  | none=>rw [q] at hd';cases hd'
  | some dm =>
    rw [q] at hd';cases hd';rw [Jz dm e (HI hd q) he];exact h3 m dm hm q
def Ca (x e:Dv):Option Dv:=match x with
 | .lst xs=>if (e.cmp && Am xs && decide (BB xs<=150))=true then (FQ e xs).map fun j=>.int (j:Nat) else none
 | _=>none
theorem QL {o:Nat}:AH K (two Ca) o (Zw (Q.rIndexD K)):=EG fun g H x y v w o1 o2 P R d Q zd l1 h1 l2 h2 e k=>by
 unfold Ca at e;split at e
 ·split at e
  ·rename_i xs c;rw [Bool.and_eq_true,Bool.and_eq_true,decide_eq_true_eq] at c;simp only [Option.map_eq_some_iff] at e;obtain ⟨j,e1,rfl⟩:=e;obtain ⟨p,us,rfl,ha,hx,_⟩:=Di l1 h1;obtain ⟨q1,q2⟩:=Qu c.1.1 c.1.2 e1;exact ⟨p,us,w,toDs xs,toD y,j,rfl,rfl,ha,hx.isL c.1.2,h2.is c.1.1,by rw [deps_D];exact c.2,q1,q2,k _ _ (AV.int _)⟩
  ·cases e
 ·cases e
def Bm (x e:Dv):Option Dv:=match x with
 | .tup xs=>if (e.cmp && Am xs && decide (BB xs<=150))=true then (FQ e xs).map fun j=>.int (j:Nat) else none
 | _=>none
theorem NS {o:Nat}:AH K (two Bm) o (Zw (Q.rIndexTD K)):=EG fun g H x y v w o1 o2 P R d Q zd l1 h1 l2 h2 e k=>by
 unfold Bm at e;split at e
 ·split at e
  ·rename_i xs c;rw [Bool.and_eq_true,Bool.and_eq_true,decide_eq_true_eq] at c;simp only [Option.map_eq_some_iff] at e;obtain ⟨j,e1,rfl⟩:=e;obtain ⟨p,us,rfl,_,hx,ha⟩:=EY l1 h1;obtain ⟨q1,q2⟩:=Qu c.1.1 c.1.2 e1;exact ⟨p,us,w,toDs xs,toD y,j,rfl,rfl,ha,hx.isL c.1.2,h2.is c.1.1,by rw [deps_D];exact c.2,q1,q2,k _ _ (AV.int _)⟩
  ·cases e
 ·cases e
noncomputable def cA:Dv->Option String
 | .non=>some "NoneType"
 | .bl _=>some "bool"
 | .int _=>some "int"
 | .str _=>some "str"
 | .tup _=>some "tuple"
 | .lst _=>some "list"
 | _=>none
def Lr (x y:Dv):Option Dv:=match y with
 | .ty T=>if ["int", "bool", "str", "tuple", "list"].contains T=true then (cA x).map fun k=>.bl (Q.isSub k T) else none
 | _=>none
theorem Xy {o:Nat}:AH K (two Lr) o (Xk K):=EG fun g H x y v w o1 o2 P R d Q zd l1 h1 l2 h2 e k=>by
 unfold Lr at e;split at e
 ·rename_i T;split at e
  ·rename_i c
   have hT:T∈["int", "bool", "str", "tuple", "list"]:=by simpa using c
   have hw:w=.ty T:=by unfold Rep at h2;exact h2.1
   subst hw
   have go:∀ kd,TyOf K H v (.type kd)->kd∈["NoneType", "bool", "int", "str", "tuple", "list"]->some (Dv.bl (_root_.Q.isSub kd T))=some d->Xk K [v,.ty T] H Q:=fun kd ty hk he=>by
    cases he;exact ⟨v,T,.type kd,_,rfl,ty,_root_.Q.kit_ok K hk hT,k _ _ (AV.bl _)⟩
   cases x with
   | non=>rw [rep_non h1] at go ⊢;exact go "NoneType" .non (by simp) e
   | bl b=>rw [rep_bl h1] at go ⊢;exact go "bool" (.bl _) (by simp) e
   | int b=>rw [rep_int h1] at go ⊢;exact go "int" (.int _) (by simp) e
   | str b=>rw [rep_str h1] at go ⊢;exact go "str" (.str _) (by simp) e
   | tup b=>obtain ⟨p,us,rfl,_,_,ha⟩:=EY l1 h1;exact go "tuple" (.tup ha) (by simp) e
   | lst b=>obtain ⟨p,us,rfl,_,_,ha⟩:=Di l1 h1;exact go "list" (.lst ha) (by simp) e
   | _=>cases e
  ·cases e
 ·cases e
end
end R
namespace L2
open PySem PySem.Spec PyProof.Rows
section
end
end L2
namespace R
open PySem L2
section
variable {K:W.Frag} {g:G} {H:Hp}
noncomputable def aK:List Dv->List Dv->List Dv
 | x1::xs1,x2::xs2=>.tup [x1,x2]::aK xs1 xs2
 | _,_=>[]
end
section
variable {K:W.Frag} {g:G} {H:Hp}
noncomputable def fm {α:Type} (f:Dv->Dv->Dv->Option α) (ds:List Dv):Option α:=match ds with | [a,b,c]=>f a b c | _=>none
def dQ (ds:List Dv):Option Dv:=match ds with
 | [.int j]=>if small j=true/\j<=1000000 then some (.lst ((List.range j.toNat).map fun k=>.int (k:Nat))) else none
 | [.int i,.int j]=>if (small i && small j)=true/\j - i<=1000000 then some (.lst ((List.range (j - i).toNat).map fun k=>.int (i+(k:Nat)))) else none
 | _=>none
end
noncomputable def NM (ds:List Dv):Option (List Dv):=match ds with
 | [.int i,.int j,.int k]=>if k = -1/\(-1000000<=i/\i < 1000000/\-1000000<=j/\j < 1000000) then some ((List.range (i - j).toNat).map fun q=>.int (i - (q:Nat))) else none
 | _=>none
def bI:List V->Hp->(It->Hp->Prop)->Prop:=fun vs H1 R=>∃ i j:Int,vs=[.int i,.int j,.int (-1)]/\(-1000000<=i/\i < 1000000/\-1000000<=j/\j < 1000000)/\R (eL i (i - j).toNat) H1
theorem Sx {K:W.Frag} {g:G} {H:Hp} {hi:Int} {n:Nat}:Yl K (eL hi n) ((List.range n).map fun k=>.int (hi - (k:Nat))) g H:=by
 intro g2 H2 st;refine ⟨fun i d e=>?_,fun i hi=>by rw [List.length_map,List.length_range] at hi;exact hi⟩;obtain ⟨hi,rfl⟩:=DK e;refine ⟨hi,fun x H3 y=>?_⟩;obtain ⟨rfl,rfl⟩:=y;exact AV.old BK
theorem Pg {K:W.Frag}:Vt K NM bI:=fun g H ds vs its Q zd ra e q=>by
 unfold NM at e;split at e
 ·rename_i i j k;split at e
  ·rename_i c;obtain ⟨rfl,c⟩:=c;cases e;obtain ⟨v,us,rfl,h1,h2⟩:=BF ra;obtain ⟨w,us,rfl,h3,h4⟩:=BF h2;obtain ⟨u,us,rfl,h5,h6⟩:=BF h4;cases BJ h6;rw [rep_int h1,rep_int h3,rep_int h5];exact ⟨i,j,rfl,c,q _ H (fun _ _ z=>z) Sx⟩
  ·cases e
 ·cases e
noncomputable def KW (x y:Dv):Option Dv:=match x,y with
 | .lst xs,.int i=>if i = -1 then some (.lst xs.reverse) else none
 | .tup xs,.int i=>if i = -1 then some (.tup xs.reverse) else none
 | _,_=>none
theorem Tt {K:W.Frag}:AH K (two KW) 1 (Iz (gC K)):=Ey fun g H x y v w o1 o2 P R d Q zd l1 h1 l2 h2 e k=>by
 unfold KW at e;split at e
 ·split at e
  ·rename_i hi;subst hi;cases e;obtain ⟨a,us,rfl,ha,hx,_⟩:=Di l1 h1;exact ⟨a,us,false,rfl,rep_int h2,ha,fun l hl=>k _ _ (AV.lst zd (HX hx) hl)⟩
  ·cases e
 ·split at e
  ·rename_i hi;subst hi;cases e;obtain ⟨a,us,rfl,ha,hx,_⟩:=EY l1 h1;exact ⟨a,us,true,rfl,rep_int h2,ha,fun l hl=>k _ _ (AV.tup (Nat.le_refl 1) hl (HX hx))⟩
  ·cases e
 ·cases e
noncomputable def KS:Dv->Option Bool
 | .non=>some false
 | .bl b=>some b
 | .int i=>some (i != 0)
 | .str l=>if l.length<=1000000 then some (!l.isEmpty) else none
 | .lst xs=>some (!xs.isEmpty)
 | .tup xs=>some (!xs.isEmpty)
 | .scr xs=>some (!xs.isEmpty)
 | .dct ks _=>some (!ks.isEmpty)
 | _=>none
theorem ML {K:W.Frag} {g:G} {H:Hp} {o:Nat} {xs:List Dv} {vs:List V} {P:Fp} (h:Reps K g H o xs vs P):(!xs.isEmpty)=!vs.isEmpty:=by
 have:=h.len;cases xs<;>cases vs<;>simp at this<;>rfl
theorem TC (K:W.Frag) (g:G) (H:Hp) (o:Nat) (d:Dv) (v:V) (P:Fp) (b:Bool) (h:Rep K g H o d v P) (e:KS d=some b):Sl K v H b:=by
 cases d with
 | non=>cases e;rw [rep_non h];exact rfl
 | bl b=>cases e;rw [rep_bl h];exact rfl
 | int i=>cases e;rw [rep_int h];exact rfl
 | str l =>
  simp only [KS.eq_def] at e;split at e
  ·rename_i hl;cases e;rw [rep_str h];refine ⟨by rw [Bo];exact Nat.le_trans hl (by decide),?_⟩;rw [Bo];cases l<;>simp;omega
  ·cases e
 | lst xs =>
  cases e;unfold Rep at h;obtain ⟨a,vs,P',rfl,h1,h2,_⟩:=h;exact .inl ⟨vs,.inl (.inl h1.1),ML h2⟩
 | tup xs =>
  cases e;unfold Rep at h;obtain ⟨a,vs,rfl,h1,h2⟩:=h;exact .inr (.inl ⟨vs,.inl (.inl h1),ML h2⟩)
 | scr ns =>
  cases e;obtain ⟨a,rfl,h1⟩:=Pp h;exact .inl ⟨_,h1,by cases ns<;>rfl⟩
 | dct ks ds =>
  cases e;obtain ⟨a,us,rfl,ha,hl,hx⟩:=VF h;refine .inr (.inr ⟨_,ha,?_⟩);have:=hx.len;cases ks<;>cases ds<;>cases us<;>simp at hl this<;>rfl
 | _=>cases e
theorem Ui {X:Cx} (h:Gx X):X.A.units+1 < cLine:=by obtain ⟨j,r⟩:=h.2;have:=r.un;omega
end R
namespace My
open PySem L2 R
theorem gU {K:W.Frag} {o:Nat} {r:Og}:AH K (fun _=>none) o r:=fun _ _ _ _ _ _ _ _ e _=>by cases e
theorem gT {K:W.Frag} {o:Nat} {r:Og}:AH K (one fun _=>none) o r:=fun _ _ ds _ _ _ _ _ e _=>by unfold one at e;split at e<;>cases e
def tb:Tb where
 bins:=[⟨.Add,Af,fun X h=>⟨_,US X.K,YA⟩⟩,
  ⟨.Sub,Gn,fun X h=>⟨_,YQ,UB⟩⟩,
  ⟨.Mult,Bw,fun X h=>⟨_,YT.or (YR.or L4.op_repT),Xw⟩⟩,
  ⟨.Mod,DB,fun X h=>⟨_,YU,IM fun _ _ h=>of_decide_eq_true h⟩⟩,
  ⟨.FloorDiv,Sk,fun X h=>⟨_,UO,IM fun _ _ h=>by rw [Bool.and_eq_true,decide_eq_true_eq,decide_eq_true_eq] at h;exact h⟩⟩,
  ⟨.Pow,Zs,fun X h=>⟨_,YS,IM fun _ _ h=>by rw [Bool.and_eq_true,Bool.and_eq_true,decide_eq_true_eq,decide_eq_true_eq,decide_eq_true_eq] at h;exact ⟨h.1.1,h.1.2,h.2⟩⟩⟩]
 cmps:=[⟨.Eq,Do,fun X h=>⟨_,L3.op_eqA h.2.choose_spec,QN⟩⟩,
  ⟨.NotEq,aE,fun X h=>⟨_,L3.op_neA h.2.choose_spec,QN⟩⟩,
  ⟨.Lt,fU,fun X h=>⟨_,bh,IP⟩⟩,
  ⟨.Gt,Su,fun X h=>⟨_,bo,IP⟩⟩,
  ⟨.GtE,gL,fun X h=>⟨_,bp,IP⟩⟩,
  ⟨.In,eD,fun X h=>⟨_,(Q.op_inQ h.2.choose_spec).or (YW (Ui h)),QM⟩⟩,
  ⟨.NotIn,Gj,fun X h=>⟨_,(Q.op_notInQ h.2.choose_spec).or (UP (Ui h)),QM⟩⟩]
 calls:=[⟨"len", 1,1,one An,fun X h=>⟨_,Xx,.inl ⟨_,(OP X.K).or Li,PySem.boot_len⟩⟩⟩,
  ⟨"tuple", 1,1,one AZ,fun X h=>⟨_,QK,.inr ⟨_,KL X.K,PyProof.Rows.Boot.«tuple»⟩⟩⟩,
  ⟨"list", 1,1,one KZ,fun X h=>⟨_,Tw,.inr ⟨_,Lh X.K,PyProof.Rows.Boot.«list»⟩⟩⟩,
  ⟨"int", 1,1,one EU,fun X h=>⟨_,UA,.inr ⟨_,OT,PyProof.Rows.Boot.«int»⟩⟩⟩,
  ⟨"sum", 1,1,one Oe,fun X h=>⟨_,Xu,.inl ⟨_,Q.call_sumQ h.1,PyProof.Rows.Boot.«sum»⟩⟩⟩,
  ⟨"max", 1,1,one FO,fun X h=>⟨_,Tu,.inl ⟨_,ON X.K rfl h.1,PyProof.Rows.Boot.«max»⟩⟩⟩,
  ⟨"max", 2,1,two Cc,fun X h=>⟨_,Tv,.inl ⟨_,OO h.1,PyProof.Rows.Boot.«max»⟩⟩⟩,
  ⟨"isinstance", 2,1,two Lr,fun X h=>⟨_,Xy,.inl ⟨_,OS X.K,PyProof.Rows.Boot.«isinstance»⟩⟩⟩]
 meths:=[⟨"join", 1, "str", 1,two Gp,.inl (.inr (.inl rfl)),fun X h=>⟨_,_,PySem.F.plainAttrs_str,PySem.F.slot_str_join,PySem.F.type_str_join,Ql X.K,Tz⟩⟩,
  ⟨"upper", 0, "str", 1,one FF,.inl (.inr (.inl rfl)),fun X h=>⟨_,_,PySem.F.plainAttrs_str,PySem.F.slot_str_upper,PySem.F.type_str_upper,Qk,QJ⟩⟩,
  ⟨"index", 1, "list", 1,two Ca,.inl (.inl rfl),fun X h=>⟨_,_,PySem.F.plainAttrs_list,PySem.F.slot_list_index,PySem.F.type_list_index,Q.mt_indexD h.2.choose_spec,QL⟩⟩,
  ⟨"index", 1, "tuple", 1,two Bm,.inr ⟨rfl,rfl⟩,fun X h=>⟨_,_,PySem.F.plainAttrs_tuple,PySem.F.slot_tuple_index,PySem.F.type_tuple_index,Q.mt_indexTD h.2.choose_spec,NS⟩⟩]
 muts:=[⟨"append", 1, "list", Aa,.inl rfl,fun X h=>⟨_,_,PySem.F.plainAttrs_list,PySem.F.slot_list_append,PySem.F.type_list_append,Ni,Ng⟩⟩,
  ⟨"pop", 0, "list", Of,.inl rfl,fun X h=>⟨_,_,PySem.F.plainAttrs_list,PySem.F.slot_list_pop,PySem.F.type_list_pop,Ye,Yc⟩⟩,
  ⟨"extend", 1, "list", DR,.inl rfl,fun X h=>⟨_,_,PySem.F.plainAttrs_list,PySem.F.slot_list_extend,PySem.F.type_list_extend,Nh,Nf⟩⟩]
 srcs:=[⟨"range", 1,false,Bd,fun X h=>⟨_,Ph,fun tg es p pos ta _ hn hs hg hm ha=>match es,hn,hs,ha with | [a],_,hs,ha=>NW hg hm ha (AI (by simpa using hs))⟩⟩,
  ⟨"range", 3,false,NM,fun X h=>⟨_,Pg,fun tg es p pos ta _ hn hs hg hm ha=>match es,hn,hs,ha with
   | [a,b,c],_,hs,ha=>have z:Ax a=true/\Ax b=true/\Ax c=true:=by simpa using hs
    have s3:starEach [c] X.env=[(false,eval c X.env)]:=AI z.2.2;have s2:starEach [b,c] X.env=[(false,eval b X.env),(false,eval c X.env)]:=(AI z.2.1).trans (by rw [s3])
    NV hg hm ha ((AI z.1).trans (by rw [s2])) s2⟩⟩]
 ix:=AA
 ixok:=fun X h=>⟨_,(fB X.K).or (cB (Ui h)),Xz⟩
 sl:=KU
 slok:=fun X h=>⟨_,eY X.K,bU⟩
 tru:=KS
 trok:=TC
 lr:=fun _=>none
 lrok:=fun X h=>gU
 rv:=KW
 rvok:=fun X h=>Tt
 lv:=fun _=>none
 lvok:=fun X h=>gT
 st:=AS
 stok:=fun X h=>⟨_,Tc.or (Xa (Ui h)),XZ⟩
noncomputable def top (i:Nat):Stmt:=PySem.Challenge.pw_shapefree_k23_what_forms_tell.main.body.getD i (.Pass ⟨0,0,0,0⟩)
def md:Md:=⟨tb,[],["len", "range", "tuple", "list", "zip", "isinstance", "enumerate", "all", "any", "int", "bool", "str", "sum", "max", "min", "reversed", "sorted", "dict", "repr", "set", "abs", "type", "ord", "chr"]⟩
noncomputable def eB:List (Str×Sig):=[]
noncomputable def GE (x3:Dv):Option Dv:=
(AA x3 (Dv.int 0)).bind fun d4 =>
some d4
noncomputable def Ks (x9:Dv):Option Dv:=
(AA x9 (Dv.int 0)).bind fun d10 =>
some d10
noncomputable def Fw (a0:Dv) (a2:Dv):Option (Dv):=
Option.or ((AA a0 (Dv.int 1)).bind fun d1 =>
(items d1).bind fun s2 =>
EV s2 ((Az GE s2).bind fun y5 =>
Cu "list" (Dv.lst y5) (
(Ca (Dv.lst y5) a2).bind fun d6 =>
some d6))) ((AA a0 (Dv.int 1)).bind fun d7 =>
(items d7).bind fun s8 =>
EV s8 ((Az Ks s8).bind fun y11 =>
Cu "tuple" (Dv.lst y11) (
(Bm (Dv.lst y11) a2).bind fun d12 =>
some d12)))
noncomputable def Dz (a0 a1 a2:Dv):Option (Dv):=
(AA a1 (Dv.int 2)).bind fun d0 =>
((Fw a0 a2)).bind fun t13 =>
(AA d0 t13).bind fun d14 =>
some d14
theorem OK:FD md eB (top 1) [] 0=true:=by kernel_rfl
theorem OB:∀ ds,ds.length=(AC (top 1)).length->Bf md eB (top 1) [] 0 ds=Ki Dz ds:=fQ (by kernel_rfl) fun _ _ _=>(by kernel_rfl)
def eA:List (Str×Sig):=("table_in", Ac (AC (top 1)) [] 0 false (Ki Dz))::eB
noncomputable def FU (x2:Dv) (t3:Dv):Option (Dv):=
(AA t3 x2).bind fun d4 =>
some d4
noncomputable def JN (a0 a1 a2 a3:Dv):Option (Dv):=
(Dz a0 a1 a2).bind fun c0 =>
(items a3).bind fun s1 =>
(Ap FU s1 c0).bind fun t5 =>
some t5
theorem ZP:FD md eA (top 2) [] 0=true:=by kernel_rfl
theorem ZK:∀ ds,ds.length=(AC (top 2)).length->Bf md eA (top 2) [] 0 ds=Ga JN ds:=dH (by kernel_rfl) fun _ _ _ _=>(by kernel_rfl)
def dz:List (Str×Sig):=("done", Ac (AC (top 2)) [] 0 false (Ga JN))::eA
noncomputable def De (a0:Dv) (a2:Dv):Option (Dv):=
Option.or ((AA a0 (Dv.int 0)).bind fun d1 =>
Cu "list" d1 (
(Ca d1 a2).bind fun d2 =>
some d2)) ((AA a0 (Dv.int 0)).bind fun d3 =>
Cu "tuple" d3 (
(Bm d3 a2).bind fun d4 =>
some d4))
noncomputable def ED (a0 a1 a2:Dv):Option (Dv):=
(AA a1 (Dv.int 1)).bind fun d0 =>
((De a0 a2)).bind fun t5 =>
(AA d0 t5).bind fun d6 =>
some d6
theorem OL:FD md dz (top 3) [] 0=true:=by kernel_rfl
theorem OC:∀ ds,ds.length=(AC (top 3)).length->Bf md dz (top 3) [] 0 ds=Ki ED ds:=fQ (by kernel_rfl) fun _ _ _=>(by kernel_rfl)
def dw:List (Str×Sig):=("fixed_in", Ac (AC (top 3)) [] 0 false (Ki ED))::dz
noncomputable def Bh (a4:Dv) (x11:Dv):Option Dv:=
(AA a4 x11).bind fun d12 =>
some d12
noncomputable def BI (a0 a1 a2 a3 a4:Dv):Option (Dv):=
(AA a1 (Dv.int 0)).bind fun d0 =>
(Do d0 (Dv.str [105,110,112,117,116])).bind fun b1 =>
if b1=true then
(AA a1 (Dv.int 1)).bind fun d2 =>
(AA a3 d2).bind fun d3 =>
some d3
else
(AA a1 (Dv.int 0)).bind fun d4 =>
(Do d4 (Dv.str [102,105,120,101,100])).bind fun b5 =>
if b5=true then
(AA a1 (Dv.int 1)).bind fun d6 =>
(ED a0 a2 d6).bind fun c7 =>
some c7
else
(AA a1 (Dv.int 1)).bind fun d8 =>
(AA a1 (Dv.int 2)).bind fun d9 =>
(items d9).bind fun s10 =>
EV s10 ((Az (Bh a4) s10).bind fun y13 =>
(JN a0 a2 d8 (Dv.lst y13)).bind fun c14 =>
some c14)
theorem KH:FD md dw (top 6) [] 0=true:=by kernel_rfl
theorem Jy:∀ ds,ds.length=(AC (top 6)).length->Bf md dw (top 6) [] 0 ds=ZH BI ds:=gY (by kernel_rfl) fun _ _ _ _ _=>(by kernel_rfl)
def du:List (Str×Sig):=("node_value", Ac (AC (top 6)) [] 0 true (ZH BI))::dw
noncomputable def Dw (a0:Dv) (a2:Dv) (a3:Dv) (x2:Dv) (t3:Dv):Option (Dv):=
Cu "list" t3 (
(BI a0 x2 a2 a3 t3).bind fun c4 =>
bif UX c4 then
(Aa t3 [c4]).bind fun r5 =>
some r5.2
else none)
noncomputable def GJ (a0 a1 a2 a3:Dv):Option (Dv):=
(AA a1 (Dv.int 0)).bind fun d0 =>
(items d0).bind fun s1 =>
(Ap (Dw a0 a2 a3) s1 (Dv.lst [])).bind fun t6 =>
(AA a1 (Dv.int 1)).bind fun d7 =>
(AA t6 d7).bind fun d8 =>
some d8
theorem VH:FD md du (top 5) [] 0=true:=by kernel_rfl
theorem Uw:∀ ds,ds.length=(AC (top 5)).length->Bf md du (top 5) [] 0 ds=Ga GJ ds:=dH (by kernel_rfl) fun _ _ _ _=>(by kernel_rfl)
def dr:List (Str×Sig):=("value", Ac (AC (top 5)) [] 0 false (Ga GJ))::du
noncomputable def GH (t3:Dv) (x8:Dv):Option Dv:=
(AA t3 x8).bind fun d9 =>
some d9
noncomputable def GC (x2:Dv) (t3:Dv):Option (Dv):=
(AA x2 (Dv.int 0)).bind fun d4 =>
(Do d4 (Dv.str [100,111])).bind fun b5 =>
if b5=true then
(AA x2 (Dv.int 2)).bind fun d6 =>
(items d6).bind fun s7 =>
EV s7 ((Az (GH t3) s7).bind fun y10 =>
(FO (Dv.lst y10)).bind fun d11 =>
(Af (Dv.int 1) d11).bind fun d12 =>
some d12)
else
some (Dv.int 0)
noncomputable def Dy (x2:Dv) (t3:Dv):Option (Dv):=
Cu "list" t3 (
((GC x2 t3)).bind fun t13 =>
(Aa t3 [t13]).bind fun r14 =>
some r14.2)
noncomputable def GK (a0:Dv):Option (Dv):=
(AA a0 (Dv.int 0)).bind fun d0 =>
(items d0).bind fun s1 =>
(Ap Dy s1 (Dv.lst [])).bind fun t15 =>
(AA a0 (Dv.int 1)).bind fun d16 =>
(AA t15 d16).bind fun d17 =>
some d17
theorem VM:FD md dr (top 7) [] 0=true:=by kernel_rfl
theorem VA:∀ ds,ds.length=(AC (top 7)).length->Bf md dr (top 7) [] 0 ds=one GK ds:=aD (by kernel_rfl) fun _=>(by kernel_rfl)
def dq:List (Str×Sig):=("depth", Ac (AC (top 7)) [] 0 false (one GK))::dr
noncomputable def Br (t2:Dv) (x7:Dv):Option Dv:=
(AA t2 x7).bind fun d8 =>
some d8
noncomputable def Bq (x1:Dv) (t2:Dv):Option (Dv):=
(AA x1 (Dv.int 0)).bind fun d3 =>
(Do d3 (Dv.str [100,111])).bind fun b4 =>
if b4=true then
(AA x1 (Dv.int 2)).bind fun d5 =>
(items d5).bind fun s6 =>
EV s6 ((Az (Br t2) s6).bind fun y9 =>
(Oe (Dv.lst y9)).bind fun d10 =>
(Af (Dv.int 1) d10).bind fun d11 =>
some d11)
else
some (Dv.int 0)
noncomputable def BN (x1:Dv) (t2:Dv):Option (Dv):=
Cu "list" t2 (
((Bq x1 t2)).bind fun t12 =>
(Aa t2 [t12]).bind fun r13 =>
some r13.2)
noncomputable def Bi (a0:Dv):Option (Dv):=
(items a0).bind fun s0 =>
(Ap BN s0 (Dv.lst [])).bind fun t14 =>
some t14
theorem Gz:FD md dq (top 9) [] 1=true:=by kernel_rfl
theorem Gy:∀ ds,ds.length=(AC (top 9)).length->Bf md dq (top 9) [] 1 ds=one Bi ds:=aD (by kernel_rfl) fun _=>(by kernel_rfl)
def dk:List (Str×Sig):=("deeds_by_node", Ac (AC (top 9)) [] 1 false (one Bi))::dq
noncomputable def GL (a0:Dv):Option (Dv):=
(AA a0 (Dv.int 0)).bind fun d0 =>
(Bi d0).bind fun c1 =>
(AA a0 (Dv.int 1)).bind fun d2 =>
(AA c1 d2).bind fun d3 =>
some d3
theorem VN:FD md dk (top 8) [] 0=true:=by kernel_rfl
theorem VB:∀ ds,ds.length=(AC (top 8)).length->Bf md dk (top 8) [] 0 ds=one GL ds:=aD (by kernel_rfl) fun _=>(by kernel_rfl)
def di:List (Str×Sig):=("deeds", Ac (AC (top 8)) [] 0 false (one GL))::dk
noncomputable def JL (a0:Dv) (a1:Dv) (d1:Dv):Option (Dv):=
(An a0).bind fun d5 =>
(Su d5 (Dv.int 0)).bind fun b6 =>
if b6=true then
(An a0).bind fun d7 =>
(DB a1 d7).bind fun d8 =>
(AA a0 d8).bind fun d9 =>
(DB d9 (Dv.int 2147483629)).bind fun d10 =>
(Bw d10 (Dv.int 31)).bind fun d11 =>
(Bw (Dv.int 7907) a1).bind fun d12 =>
(Af d11 d12).bind fun d13 =>
some d13
else
some d1
noncomputable def GB (a0:Dv) (a1:Dv) (d1:Dv):Option (Dv):=
(An a0).bind fun d2 =>
(fU a1 d2).bind fun b3 =>
if b3=true then
(AA a0 a1).bind fun d4 =>
some d4
else
((JL a0 a1 d1)).bind fun t14 =>
some t14
noncomputable def GA (t15:Dv):Option (Dv):=
(Zs (Dv.int 10) (Dv.int 18)).bind fun d16 =>
(gL t15 d16).bind fun b17 =>
if b17=true then
some t15
else
some (Dv.int 0)
noncomputable def Co (a0 a1:Dv):Option (Dv):=
(Bw (Dv.int 7907) a1).bind fun d0 =>
(Af d0 (Dv.int 13579)).bind fun d1 =>
((GB a0 a1 d1)).bind fun t15 =>
((GA t15)).bind fun t18 =>
(DB t15 (Dv.int 2147483629)).bind fun d19 =>
(Bw d19 (Dv.int 48271)).bind fun d20 =>
(Bw (Dv.int 40692) a1).bind fun d21 =>
(Af d20 d21).bind fun d22 =>
(DB d22 (Dv.int 2147483646)).bind fun d23 =>
(Af d23 (Dv.int 1)).bind fun d24 =>
some (Dv.lst [t18,d24])
theorem VL:FD md di (top 11) [] 1=true:=by kernel_rfl
theorem Uz:∀ ds,ds.length=(AC (top 11)).length->Bf md di (top 11) [] 1 ds=two Co ds:=dI (by kernel_rfl) fun _ _=>(by kernel_rfl)
def dh:List (Str×Sig):=("_law_feed", Ac (AC (top 11)) [] 1 false (two Co))::di
noncomputable def AK (a0 a1:Dv):Option (Dv×Dv):=
(AA a0 (Dv.int 0)).bind fun d0 =>
(Su d0 (Dv.int 0)).bind fun b1 =>
if b1=true then
(AA a0 (Dv.int 0)).bind fun d2 =>
(DB d2 a1).bind fun d3 =>
(AA a0 (Dv.int 0)).bind fun d4 =>
(Sk d4 a1).bind fun d5 =>
(AS a0 (Dv.int 0) d5).bind fun d6 =>
some (d3,d6)
else
(AA a0 (Dv.int 1)).bind fun d7 =>
(Bw d7 (Dv.int 48271)).bind fun d8 =>
(DB d8 (Dv.int 2147483647)).bind fun d9 =>
(Bw d9 (Dv.int 40692)).bind fun d10 =>
(Af d10 (Dv.int 30103)).bind fun d11 =>
(DB d11 (Dv.int 2147483399)).bind fun d12 =>
(Af d12 (Dv.int 1)).bind fun d13 =>
(AS a0 (Dv.int 1) d13).bind fun d14 =>
(Bw d9 (Dv.int 2147483647)).bind fun d15 =>
(AA d14 (Dv.int 1)).bind fun d16 =>
(Af d15 d16).bind fun d17 =>
(Sk d17 (Dv.int 8191)).bind fun d18 =>
(DB d18 a1).bind fun d19 =>
some (d19,d14)
theorem VI:FD md dh (top 12) [0] 1=true:=by kernel_rfl
theorem Ux:∀ ds,ds.length=(AC (top 12)).length->Bf md dh (top 12) [0] 1 ds=two AK ds:=dI (by kernel_rfl) fun _ _=>(by kernel_rfl)
def Uv:List (Str×Sig):=("_law_take", Ac (AC (top 12)) [0] 1 false (two AK))::dh
noncomputable def DF (x2:Dv) (t3:Dv):Option (Dv×Dv):=
(AK t3 (Dv.int 26)).bind fun c4 =>
(AA (Dv.str [97,98,99,100,101,102,103,104,105,106,107,108,109,110,111,112,113,114,115,116,117,118,119,120,121,122]) c4.1).bind fun d5 =>
some (d5,c4.2)
noncomputable def Eg (d28:Dv):Option (Dv):=
(eD d28 (Dv.tup [(Dv.str [100,101,102]),(Dv.str [108,101,116]),(Dv.str [116,101,108,108]),(Dv.str [108,111,111,112]),(Dv.str [112,105,99,107]),(Dv.str [99,97,108,108])])).bind fun b29 =>
if b29=true then
(Af d28 (Dv.str [113])).bind fun d30 =>
some d30
else
some d28
noncomputable def Eo (d7:Dv) (c8_1:Dv) (c11_1:Dv) (c12_1:Dv) (x14:Dv) (t15:Dv):Option (Dv):=
(Bw (Dv.int 7) x14).bind fun d16 =>
(Af c8_1 d16).bind fun d17 =>
(DB d17 (Dv.int 26)).bind fun d18 =>
(AA (Dv.str [97,98,99,100,101,102,103,104,105,106,107,108,109,110,111,112,113,114,115,116,117,118,119,120,121,122]) d18).bind fun d19 =>
aF c11_1 fun i20 =>
(KU d7 none (some i20)).bind fun d21 =>
(Af d21 d19).bind fun d22 =>
aF c11_1 fun i23 =>
(Af c12_1 x14).bind fun d24 =>
(DB d24 (Dv.int 4)).bind fun d25 =>
aF d25 fun i26 =>
(KU d7 (some i23) (some i26)).bind fun d27 =>
(Af d22 d27).bind fun d28 =>
((Eg d28)).bind fun t31 =>
Cu "list" t15 (
(Aa t15 [t31]).bind fun r32 =>
some r32.2)
noncomputable def HM (c12_2:Dv) (t33:Dv):Option (Bool×Dv):=
(DW (Dv.int 2)).bind fun d35 =>
(AA t33 d35).bind fun d36 =>
(An d36).bind fun d37 =>
(fU d37 (Dv.int 4)).bind fun b38 =>
if b38=true then
(AK c12_2 (Dv.int 4)).bind fun c39 =>
(Do c39.1 (Dv.int 0)).bind fun b40 =>
some (b40,c39.2)
else
some (false,c12_2)
noncomputable def Ea (a1:Dv) (c12_2:Dv) (t33:Dv):Option (Bool×Dv):=
(Su a1 (Dv.int 1)).bind fun b34 =>
if b34=true then
((HM c12_2 t33)).bind fun t41 =>
some (t41.1,t41.2)
else
some (false,c12_2)
noncomputable def Ef (a1:Dv) (c12_2:Dv) (t33:Dv):Option (Dv×Dv):=
((Ea a1 c12_2 t33)).bind fun t42 =>
if t42.1=true then
(DW (Dv.int 2)).bind fun d43 =>
(AA t33 d43).bind fun d44 =>
(Af d44 (Dv.str [113])).bind fun d45 =>
(DW (Dv.int 1)).bind fun d46 =>
(AS t33 d46 d45).bind fun d47 =>
some (t42.2,d47)
else
some (t42.2,t33)
noncomputable def CB (a0 a1:Dv):Option (Dv×Dv):=
Cu "str" (Dv.str []) (
(AK a0 (Dv.int 4)).bind fun c0 =>
(Bd [c0.1]).bind fun s1 =>
EV s1 ((BD DF s1 c0.2).bind fun p6 =>
(Gp (Dv.str []) (Dv.lst p6.1)).bind fun d7 =>
(AK p6.2 (Dv.int 26)).bind fun c8 =>
(An d7).bind fun d9 =>
(Af d9 (Dv.int 1)).bind fun d10 =>
(AK c8.2 d10).bind fun c11 =>
(AK c11.2 (Dv.int 4)).bind fun c12 =>
(Bd [a1]).bind fun s13 =>
(Ap (Eo d7 c8.1 c11.1 c12.1) s13 (Dv.lst [])).bind fun t33 =>
((Ef a1 c12.2 t33)).bind fun t48 =>
some (t48.2,t48.1)))
theorem Rj:FD md Uv (top 13) [0] 1=true:=by kernel_rfl
theorem RU:∀ ds,ds.length=(AC (top 13)).length->Bf md Uv (top 13) [0] 1 ds=two CB ds:=dI (by kernel_rfl) fun _ _=>(by kernel_rfl)
def Uu:List (Str×Sig):=("_law_names", Ac (AC (top 13)) [0] 1 false (two CB))::Uv
noncomputable def Em (x5:Dv):Option Dv:=
(KU x5 none (some 1)).bind fun d6 =>
Cu "str" d6 (
(FF d6).bind fun d7 =>
(KU x5 (some 1) none).bind fun d8 =>
(Af d7 d8).bind fun d9 =>
some d9)
noncomputable def El (c11_1:Dv) (x15:Dv) (t16:Dv):Option (Dv×Dv):=
(AA c11_1 x15).bind fun d17 =>
(AK t16 (Dv.int 2)).bind fun c18 =>
(Af (Dv.int 1) c18.1).bind fun d19 =>
some ((Dv.tup [d17,d19]),c18.2)
noncomputable def EA (a0:Dv):Option (Dv×Dv):=
(CB a0 (Dv.int 4)).bind fun c0 =>
(AK c0.2 (Dv.int 5)).bind fun c1 =>
aF c1.1 fun i2 =>
(KU c0.1 none (some i2)).bind fun d3 =>
(items d3).bind fun s4 =>
EV s4 ((Az Em s4).bind fun y10 =>
(CB c1.2 (Dv.int 4)).bind fun c11 =>
(AK c11.2 (Dv.int 8)).bind fun c12 =>
(AA (Dv.lst [(Dv.int 1),(Dv.int 2),(Dv.int 3),(Dv.int 2),(Dv.int 4),(Dv.int 1),(Dv.int 2),(Dv.int 0)]) c12.1).bind fun d13 =>
(Bd [d13]).bind fun s14 =>
EV s14 ((BD (El c11.1) s14 c12.2).bind fun p20 =>
(AZ (Dv.lst y10)).bind fun d21 =>
(AZ (Dv.lst p20.1)).bind fun d22 =>
some ((Dv.tup [d21,d22]),p20.2)))
theorem Ri:FD md Uu (top 14) [0] 1=true:=by kernel_rfl
theorem RS:∀ ds,ds.length=(AC (top 14)).length->Bf md Uu (top 14) [0] 1 ds=one EA ds:=aD (by kernel_rfl) fun _=>(by kernel_rfl)
def Ut:List (Str×Sig):=("_law_shape", Ac (AC (top 14)) [0] 1 false (one EA))::Uu
noncomputable def HV (a2:Dv) (x2:Dv) (t3:Dv):Option (Dv×Dv):=
(AK t3 a2).bind fun c4 =>
some (c4.1,c4.2)
noncomputable def HU (a2:Dv) (x14:Dv) (t15:Dv):Option (Dv×Dv):=
(AK t15 a2).bind fun c16 =>
some (c16.1,c16.2)
noncomputable def HS (a2:Dv) (x24:Dv) (t25:Dv):Option (Dv×Dv):=
(AK t25 a2).bind fun c26 =>
some (c26.1,c26.2)
noncomputable def Ej (a2:Dv) (x21:Dv) (t22:Dv):Option (Dv×Dv):=
(Bd [a2]).bind fun s23 =>
EV s23 ((BD (HS a2) s23 t22).bind fun p27 =>
(AZ (Dv.lst p27.1)).bind fun d28 =>
some (d28,p27.2))
noncomputable def Ec (a2:Dv) (t10_1:Dv) (t10_2:Dv) (t11_2:Dv):Option (Dv×Dv):=
(Do t11_2 (Dv.int 1)).bind fun b12 =>
if b12=true then
Cu "list" t10_2 (
(Bd [a2]).bind fun s13 =>
EV s13 ((BD (HU a2) s13 t10_1).bind fun p17 =>
(AZ (Dv.lst p17.1)).bind fun d18 =>
(Aa t10_2 [d18]).bind fun r19 =>
some (p17.2,r19.2)))
else
Cu "list" t10_2 (
(Bd [a2]).bind fun s20 =>
EV s20 ((BD (Ej a2) s20 t10_1).bind fun p29 =>
(AZ (Dv.lst p29.1)).bind fun d30 =>
(Aa t10_2 [d30]).bind fun r31 =>
some (p29.2,r31.2)))
noncomputable def DG (a2:Dv) (x9:Dv) (t10:Dv×Dv):Option (Dv×Dv):=
(Vx [5,6] x9).bind fun (t11:Dv×Dv) =>
((Ec a2 t10.1 t10.2 t11.2)).bind fun t32 =>
some (t32.1,t32.2)
noncomputable def DI (a0 a1 a2:Dv):Option (Dv×Dv):=
(AA a1 (Dv.int 0)).bind fun d0 =>
(items d0).bind fun s1 =>
EV s1 ((BD (HV a2) s1 a0).bind fun p5 =>
(AZ (Dv.lst p5.1)).bind fun d6 =>
(AA a1 (Dv.int 1)).bind fun d7 =>
(items d7).bind fun s8 =>
(Ap (DG a2) s8 (p5.2,(Dv.lst []))).bind fun t33 =>
(AZ t33.2).bind fun d34 =>
some ((Dv.tup [a2,d6,d34]),t33.1))
theorem Rf:FD md Ut (top 15) [0] 1=true:=by kernel_rfl
theorem RO:∀ ds,ds.length=(AC (top 15)).length->Bf md Ut (top 15) [0] 1 ds=Ki DI ds:=fQ (by kernel_rfl) fun _ _ _=>(by kernel_rfl)
def Us:List (Str×Sig):=("_law_world", Ac (AC (top 15)) [0] 1 false (Ki DI))::Ut
noncomputable def Bb (t0:Dv×Dv×Dv):Option Bool:=
(An t0.2.2).bind fun d1 =>
(Su d1 (Dv.int 0)).bind fun b2 =>
some b2
noncomputable def Bz (d14:Dv) (x19:Dv):Option Dv:=
(AA d14 x19).bind fun d20 =>
some d20
noncomputable def By (x29:Dv):Option Dv:=
some (Dv.tup [x29,(Dv.bl false)])
noncomputable def Ck (t0_1:Dv) (t0_2_1:Dv) (r3_2:Dv) (t4_1:Dv) (t4_2:Dv) (d6:Dv):Option (Dv×Dv×Dv):=
(KS t4_2).bind fun b12 =>
if b12=true then
(An t0_1).bind fun d13 =>
(AS t0_2_1 t4_1 d13).bind fun d14 =>
Cu "list" t0_1 (
(AA d6 (Dv.int 0)).bind fun d15 =>
(AA d6 (Dv.int 1)).bind fun d16 =>
(AA d6 (Dv.int 2)).bind fun d17 =>
(items d17).bind fun s18 =>
EV s18 ((Az (Bz d14) s18).bind fun y21 =>
(AZ (Dv.lst y21)).bind fun d22 =>
(Aa t0_1 [(Dv.tup [d15,d16,d22])]).bind fun r23 =>
some (r23.2,d14,r3_2)))
else
Cu "list" r3_2 (
(Aa r3_2 [(Dv.tup [t4_1,(Dv.bl true)])]).bind fun r24 =>
Cu "list" r24.2 (
(AA d6 (Dv.int 2)).bind fun d25 =>
(DW (Dv.int 1)).bind fun d26 =>
(KW d25 d26).bind fun d27 =>
(items d27).bind fun s28 =>
EV s28 ((Az By s28).bind fun y30 =>
(DR r24.2 [(Dv.lst y30)]).bind fun r31 =>
some (t0_1,t0_2_1,r31.2))))
noncomputable def Bc (t0_1:Dv) (t0_2_1:Dv) (r3_2:Dv) (t4_1:Dv) (t4_2:Dv) (d6:Dv):Option (Dv×Dv×Dv):=
(AA d6 (Dv.int 0)).bind fun d7 =>
(aE d7 (Dv.str [100,111])).bind fun b8 =>
if b8=true then
(An t0_1).bind fun d9 =>
(AS t0_2_1 t4_1 d9).bind fun d10 =>
Cu "list" t0_1 (
(Aa t0_1 [d6]).bind fun r11 =>
some (r11.2,d10,r3_2))
else
((Ck t0_1 t0_2_1 r3_2 t4_1 t4_2 d6)).bind fun t32 =>
some (t32.1,t32.2.1,t32.2.2)
noncomputable def AW (a0:Dv) (t0:Dv×Dv×Dv):Option (Dv×Dv×Dv):=
Cu "list" t0.2.2 (
(Of t0.2.2 []).bind fun r3 =>
(Vx [5,6] r3.1).bind fun (t4:Dv×Dv) =>
(eD t4.1 t0.2.1).bind fun b5 =>
if b5=true then
some (t0.1,t0.2.1,r3.2)
else
(AA a0 t4.1).bind fun d6 =>
((Bc t0.1 t0.2.1 r3.2 t4.1 t4.2 d6)).bind fun t33 =>
some (t33.1,t33.2.1,t33.2.2))
noncomputable def CM (a0 a1:Dv):Option (Dv):=
(Vw Bb (AW a0) 1000000 ((Dv.lst []),(Dv.dct [] []),(Dv.lst [(Dv.tup [a1,(Dv.bl false)])]))).bind fun t34 =>
(AZ t34.1).bind fun d35 =>
(An t34.1).bind fun d36 =>
(Gn d36 (Dv.int 1)).bind fun d37 =>
some (Dv.tup [d35,d37])
theorem Lf:FD md Us (top 16) [] 1=true:=by kernel_rfl
theorem LX:∀ ds,ds.length=(AC (top 16)).length->Bf md Us (top 16) [] 1 ds=two CM ds:=dI (by kernel_rfl) fun _ _=>(by kernel_rfl)
def Ur:List (Str×Sig):=("_law_ordered", Ac (AC (top 16)) [] 1 false (two CM))::Us
noncomputable def Du (x6:Dv):Option Dv:=
some (Dv.tup [(Dv.str [105,110,112,117,116]),x6])
noncomputable def Ds (x10:Dv):Option Dv:=
some (Dv.tup [(Dv.str [102,105,120,101,100]),x10])
noncomputable def JI (a1:Dv) (c19_2:Dv):Option (Bool×Dv):=
(AA a1 (Dv.int 1)).bind fun d23 =>
(An d23).bind fun d24 =>
(Su d24 (Dv.int 0)).bind fun b25 =>
if b25=true then
(AK c19_2 (Dv.int 4)).bind fun c26 =>
(Su c26.1 (Dv.int 0)).bind fun b27 =>
some (b27,c26.2)
else
some (false,c19_2)
noncomputable def Fu (a1:Dv) (t17_2:Dv) (c19_2:Dv):Option (Bool×Dv):=
(An t17_2).bind fun d21 =>
(Su d21 (Dv.int 0)).bind fun b22 =>
if b22=true then
((JI a1 c19_2)).bind fun t28 =>
some (t28.1,t28.2)
else
some (false,c19_2)
noncomputable def GG (t17_2:Dv) (x37:Dv) (t38:Dv):Option (Dv×Dv):=
(An t17_2).bind fun d39 =>
(Gn d39 (Dv.int 1)).bind fun d40 =>
(An t17_2).bind fun d41 =>
(AK t38 d41).bind fun c42 =>
(AK c42.2 (Dv.int 2)).bind fun c43 =>
(AA (Dv.lst [d40,c42.1]) c43.1).bind fun d44 =>
some (d44,c43.2)
noncomputable def Fy (a1:Dv) (t17_2:Dv) (c19_2:Dv) (d20:Dv):Option (Dv×Dv):=
((Fu a1 t17_2 c19_2)).bind fun t29 =>
if t29.1=true then
(AA a1 (Dv.int 1)).bind fun d30 =>
(AA a1 (Dv.int 1)).bind fun d31 =>
(An d31).bind fun d32 =>
(AK t29.2 d32).bind fun c33 =>
(AA d30 c33.1).bind fun d34 =>
(Vx [8,9] d34).bind fun (t35:Dv×Dv) =>
(Bd [t35.2]).bind fun s36 =>
EV s36 ((BD (GG t17_2) s36 c33.2).bind fun p45 =>
(AZ (Dv.lst p45.1)).bind fun d46 =>
some (p45.2,(Dv.tup [(Dv.str [100,111]),t35.1,d46])))
else
some (t29.2,d20)
noncomputable def JK (t17_2:Dv) (t47_2:Dv):Option (Dv):=
(Gj t47_2 t17_2).bind fun b48 =>
if b48=true then
Cu "list" t17_2 (
(Aa t17_2 [t47_2]).bind fun r49 =>
some r49.2)
else
some t17_2
noncomputable def GI (a1:Dv) (d12:Dv) (x16:Dv) (t17:Dv×Dv):Option (Dv×Dv):=
(An d12).bind fun d18 =>
(AK t17.1 d18).bind fun c19 =>
(AA d12 c19.1).bind fun d20 =>
((Fy a1 t17.2 c19.2 d20)).bind fun t47 =>
((JK t17.2 t47.2)).bind fun t50 =>
some (t47.1,t50)
noncomputable def Er (a0 a1 a2 a3:Dv):Option (Dv×Dv):=
(AA a1 (Dv.int 0)).bind fun d0 =>
(An d0).bind fun d1 =>
(Do d1 (Dv.int 0)).bind fun b2 =>
(EU (Dv.bl b2)).bind fun d3 =>
(Cc a2 d3).bind fun d4 =>
(Bd [d4]).bind fun s5 =>
EV s5 ((Az Du s5).bind fun y7 =>
(AA a1 (Dv.int 0)).bind fun d8 =>
(items d8).bind fun s9 =>
EV s9 ((Az Ds s9).bind fun y11 =>
(Af (Dv.lst y7) (Dv.lst y11)).bind fun d12 =>
(AK a0 a3).bind fun c13 =>
(Af (Dv.int 1) c13.1).bind fun d14 =>
(Bd [d14]).bind fun s15 =>
(Ap (GI a1 d12) s15 (c13.2,(Dv.lst []))).bind fun t51 =>
(An t51.2).bind fun d52 =>
(Gn d52 (Dv.int 1)).bind fun d53 =>
(CM t51.2 d53).bind fun c54 =>
some (c54,t51.1)))
theorem VJ:FD md Ur (top 17) [0] 1=true:=by kernel_rfl
theorem Uy:∀ ds,ds.length=(AC (top 17)).length->Bf md Ur (top 17) [0] 1 ds=Ga Er ds:=dH (by kernel_rfl) fun _ _ _ _=>(by kernel_rfl)
def Uq:List (Str×Sig):=("_law_form", Ac (AC (top 17)) [0] 1 false (Ga Er))::Ur
noncomputable def HW (x2:Dv):Option Dv:=
(Vx [8,9] x2).bind fun (t3:Dv×Dv) =>
some t3.1
noncomputable def HR (a2:Dv) (y4:List Dv):Option (Dv):=
Option.or (Cu "list" (Dv.lst y4) (
(Ca (Dv.lst y4) a2).bind fun d6 =>
some d6)) (Cu "tuple" (Dv.lst y4) (
(Bm (Dv.lst y4) a2).bind fun d7 =>
some d7))
noncomputable def DH (x11:Dv) (t12:Dv):Option (Dv):=
(AA t12 x11).bind fun d13 =>
some d13
noncomputable def EC (a0 a1 a2 a3:Dv):Option (Dv):=
(AA a0 (Dv.int 1)).bind fun d0 =>
(items d0).bind fun s1 =>
EV s1 ((Az HW s1).bind fun y4 =>
(AA a1 (Dv.int 2)).bind fun d5 =>
((HR a2 y4)).bind fun t8 =>
(AA d5 t8).bind fun d9 =>
(items a3).bind fun s10 =>
(Ap DH s10 d9).bind fun t14 =>
some t14)
theorem Rl:FD md Uq (top 18) [] 0=true:=by kernel_rfl
theorem RW:∀ ds,ds.length=(AC (top 18)).length->Bf md Uq (top 18) [] 0 ds=Ga EC ds:=dH (by kernel_rfl) fun _ _ _ _=>(by kernel_rfl)
def Up:List (Str×Sig):=("_law_acted", Ac (AC (top 18)) [] 0 false (Ga EC))::Uq
noncomputable def HN (a0:Dv) (a2:Dv):Option (Bool×Dv):=
(Do a2 (Dv.int 0)).bind fun b3 =>
if b3=true then
some (true,a0)
else
(AK a0 (Dv.int 2)).bind fun c4 =>
(Do c4.1 (Dv.int 0)).bind fun b5 =>
some (b5,c4.2)
noncomputable def Eb (a0:Dv) (a1:Dv) (a2:Dv):Option (Bool×Dv):=
(AA a1 (Dv.int 0)).bind fun d0 =>
(An d0).bind fun d1 =>
(Su d1 (Dv.int 0)).bind fun b2 =>
if b2=true then
((HN a0 a2)).bind fun t6 =>
some (t6.1,t6.2)
else
some (false,a0)
noncomputable def Ei (a0:Dv) (a1:Dv) (a2:Dv):Option (Dv×Dv):=
((Eb a0 a1 a2)).bind fun t7 =>
if t7.1=true then
(AA a1 (Dv.int 0)).bind fun d8 =>
(DW (Dv.int 1)).bind fun d9 =>
(AA d8 d9).bind fun d10 =>
some (t7.2,(Dv.lst [(Dv.tup [(Dv.str [102,105,120,101,100]),d10])]))
else
some (t7.2,(Dv.lst [(Dv.tup [(Dv.str [105,110,112,117,116]),(Dv.int 0)])]))
noncomputable def Ep (a1:Dv) (x16:Dv) (t17:Dv×Dv):Option (Dv×Dv):=
(AA a1 (Dv.int 1)).bind fun d18 =>
(AA a1 (Dv.int 1)).bind fun d19 =>
(An d19).bind fun d20 =>
(AK t17.1 d20).bind fun c21 =>
(AA d18 c21.1).bind fun d22 =>
(Vx [6,7] d22).bind fun (t23:Dv×Dv) =>
Cu "list" t17.2 (
(Bw (Dv.tup [x16]) t23.2).bind fun d24 =>
(Aa t17.2 [(Dv.tup [(Dv.str [100,111]),t23.1,d24])]).bind fun r25 =>
some (c21.2,r25.2))
noncomputable def Eh (a1:Dv) (a3:Dv) (t11_1:Dv) (t11_2:Dv):Option (Dv×Dv):=
(AA a1 (Dv.int 1)).bind fun d12 =>
(An d12).bind fun d13 =>
(Su d13 (Dv.int 0)).bind fun b14 =>
if b14=true then
(Bd [a3]).bind fun s15 =>
(Ap (Ep a1) s15 (t11_1,t11_2)).bind fun t26 =>
some (t26.1,t26.2)
else
some (t11_1,t11_2)
noncomputable def EB (a0 a1 a2 a3:Dv):Option (Dv×Dv):=
((Ei a0 a1 a2)).bind fun t11 =>
((Eh a1 a3 t11.1 t11.2)).bind fun t27 =>
(AZ t27.2).bind fun d28 =>
(An t27.2).bind fun d29 =>
(Gn d29 (Dv.int 1)).bind fun d30 =>
some ((Dv.tup [d28,d30]),t27.1)
theorem Rk:FD md Up (top 19) [0] 1=true:=by kernel_rfl
theorem RV:∀ ds,ds.length=(AC (top 19)).length->Bf md Up (top 19) [0] 1 ds=Ga EB ds:=dH (by kernel_rfl) fun _ _ _ _=>(by kernel_rfl)
def Uo:List (Str×Sig):=("_law_chain", Ac (AC (top 19)) [0] 1 false (Ga EB))::Up
noncomputable def Ee (a0:Dv) (d1:Dv):Option (Dv):=
Option.or ((AA a0 (Dv.int 0)).bind fun d10 =>
Cu "list" d10 (
(AA d1 (Dv.int 1)).bind fun d11 =>
(Ca d10 d11).bind fun d12 =>
some d12)) ((AA a0 (Dv.int 0)).bind fun d13 =>
Cu "tuple" d13 (
(AA d1 (Dv.int 1)).bind fun d14 =>
(Bm d13 d14).bind fun d15 =>
some d15))
noncomputable def Ek (self:Dv->Dv->Dv->Dv->Dv->Dv->Option (Dv×Dv)) (a0:Dv) (a1:Dv) (a2:Dv) (a3:Dv) (x21:Dv) (t22:Dv):Option (Dv×Dv):=
(self a0 a1 a2 a3 x21 t22).bind fun c23 =>
some (c23.1,c23.2)
noncomputable def Ed (self:Dv->Dv->Dv->Dv->Dv->Dv->Option (Dv×Dv)) (a0:Dv) (a1:Dv) (a2:Dv) (a3:Dv) (a4:Dv) (a5:Dv) (d1:Dv):Option (Dv):=
(AA d1 (Dv.int 0)).bind fun d7 =>
(Do d7 (Dv.str [102,105,120,101,100])).bind fun b8 =>
if b8=true then
(AA a1 (Dv.int 1)).bind fun d9 =>
((Ee a0 d1)).bind fun t16 =>
(AA d9 t16).bind fun d17 =>
(AS a5 a4 d17).bind fun d18 =>
some d18
else
(AA d1 (Dv.int 2)).bind fun d19 =>
(items d19).bind fun s20 =>
EV s20 ((BD (Ek (self) a0 a1 a2 a3) s20 a5).bind fun p24 =>
(AA d1 (Dv.int 1)).bind fun d25 =>
(EC a0 a1 d25 (Dv.lst p24.1)).bind fun c26 =>
(AS p24.2 a4 c26).bind fun d27 =>
some d27)
noncomputable def CL (self:Dv->Dv->Dv->Dv->Dv->Dv->Option (Dv×Dv)) (a0:Dv) (a1:Dv) (a2:Dv) (a3:Dv) (a4:Dv) (a5:Dv) (d1:Dv):Option (Dv):=
(AA d1 (Dv.int 0)).bind fun d2 =>
(Do d2 (Dv.str [105,110,112,117,116])).bind fun b3 =>
if b3=true then
(AA d1 (Dv.int 1)).bind fun d4 =>
(AA a2 d4).bind fun d5 =>
(AS a5 a4 d5).bind fun d6 =>
some d6
else
((Ed (self) a0 a1 a2 a3 a4 a5 d1)).bind fun t28 =>
some t28
noncomputable def CK (self:Dv->Dv->Dv->Dv->Dv->Dv->Option (Dv×Dv)) (a0:Dv) (a1:Dv) (a2:Dv) (a3:Dv) (a4:Dv) (a5:Dv):Option (Dv):=
(Gj a4 a5).bind fun b0 =>
if b0=true then
(AA a3 a4).bind fun d1 =>
((CL (self) a0 a1 a2 a3 a4 a5 d1)).bind fun t29 =>
some t29
else
some a5
noncomputable def Ao:Nat->Dv->Dv->Dv->Dv->Dv->Dv->Option (Dv×Dv)
 | 0,_,_,_,_,_,_=>none
 | n+1,a0,a1,a2,a3,a4,a5=>(
((CK (Ao n) a0 a1 a2 a3 a4 a5)).bind fun t30 =>
(AA t30 a4).bind fun d31 =>
some (d31,t30))
theorem Rh (n:Nat):FD md (("_law_tells", Ac (AC (top 20)) [5] 0 false (XW (Ao n)))::Uo) (top 20) [5] 0=true:=by kernel_rfl
theorem RQ (n:Nat):∀ ds,ds.length=(AC (top 20)).length->Bf md (("_law_tells", Ac (AC (top 20)) [5] 0 false (XW (Ao n)))::Uo) (top 20) [5] 0 ds=XW (Ao (n+1)) ds:=gX (by kernel_rfl) fun _ _ _ _ _ _=>(by kernel_rfl)
def Um:List (Str×Sig):=("_law_tells", Ac (AC (top 20)) [5] 0 false (XW (Ao 200)))::Uo
noncomputable def FT (x11:Dv) (x21:Dv) (t22:Dv×Dv):Option (Dv×Dv):=
(AA t22.2 x21).bind fun d23 =>
(AA t22.2 x11).bind fun d24 =>
(Af d23 d24).bind fun d25 =>
(AS t22.2 x21 d25).bind fun d26 =>
(AA t22.1 x21).bind fun d27 =>
(AA t22.1 x11).bind fun d28 =>
(Af d28 (Dv.int 1)).bind fun d29 =>
(Cc d27 d29).bind fun d30 =>
(AS t22.1 x21 d30).bind fun d31 =>
some (d31,d26)
noncomputable def IH (a0:Dv) (x11:Dv) (t12_1:Dv) (t12_2_1:Dv) (t12_2_2:Dv):Option (Dv×Dv×Dv):=
(AA a0 x11).bind fun d13 =>
(AA d13 (Dv.int 0)).bind fun d14 =>
(Do d14 (Dv.str [100,111])).bind fun b15 =>
if b15=true then
(AA t12_2_1 x11).bind fun d16 =>
(Af t12_2_2 d16).bind fun d17 =>
(AA a0 x11).bind fun d18 =>
(AA d18 (Dv.int 2)).bind fun d19 =>
(items d19).bind fun s20 =>
(Ap (FT x11) s20 (t12_1,t12_2_1)).bind fun t32 =>
some (t32.1,t32.2,d17)
else
some (t12_1,t12_2_1,t12_2_2)
noncomputable def Dx (a0:Dv) (x11:Dv) (t12:Dv×Dv×Dv):Option (Dv×Dv×Dv):=
((IH a0 x11 t12.1 t12.2.1 t12.2.2)).bind fun t33 =>
some (t33.1,t33.2.1,t33.2.2)
noncomputable def JM (a0:Dv):Option (Dv):=
(An a0).bind fun d0 =>
(Bw (Dv.lst [(Dv.int 0)]) d0).bind fun d1 =>
(An a0).bind fun d2 =>
(Bw (Dv.lst [(Dv.int 0)]) d2).bind fun d3 =>
(DW (Dv.int 1)).bind fun d4 =>
(AS d3 d4 (Dv.int 1)).bind fun d5 =>
(An a0).bind fun d6 =>
(Gn d6 (Dv.int 1)).bind fun d7 =>
(DW (Dv.int 1)).bind fun d8 =>
(DW (Dv.int 1)).bind fun d9 =>
(NM [d7,d8,d9]).bind fun s10 =>
(Ap (Dx a0) s10 (d1,d5,(Dv.int 0))).bind fun t34 =>
(FO t34.1).bind fun d35 =>
some (Dv.tup [d35,t34.2.2])
theorem ZO:FD md Um (top 21) [] 1=true:=by kernel_rfl
theorem ZJ:∀ ds,ds.length=(AC (top 21)).length->Bf md Um (top 21) [] 1 ds=one JM ds:=aD (by kernel_rfl) fun _=>(by kernel_rfl)
def Ul:List (Str×Sig):=("_law_far", Ac (AC (top 21)) [] 1 false (one JM))::Um
noncomputable def HQ (a0:Dv) (a1:Dv):Option (Dv):=
(Lr a0 (Dv.ty "bool")).bind fun d2 =>
Wv d2 fun b3 =>
Wv (Dv.bl (!b3)) fun b4 =>
if b4=true then
(Do a0 a1).bind fun b5 =>
some (Dv.bl b5)
else
some (Dv.bl false)
noncomputable def HP (a0:Dv) (a1:Dv):Option (Dv):=
(Lr a0 (Dv.ty "int")).bind fun d0 =>
Wv d0 fun b1 =>
if b1=true then
((HQ a0 a1)).bind fun t6 =>
some t6
else
some (Dv.bl false)
noncomputable def CV (a0 a1:Dv):Option (Dv):=
((HP a0 a1)).bind fun t7 =>
some t7
theorem Rg:FD md Ul (top 22) [] 0=true:=by kernel_rfl
theorem RP:∀ ds,ds.length=(AC (top 22)).length->Bf md Ul (top 22) [] 0 ds=two CV ds:=dI (by kernel_rfl) fun _ _=>(by kernel_rfl)
def ZF:List (Str×Sig):=("_law_whole", Ac (AC (top 22)) [] 0 true (two CV))::Ul
noncomputable def Kq (c1_1:Dv) (d7:Dv) (c11_1:Dv) (c11_2:Dv):Option (Dv×Dv):=
(AK c11_2 (Dv.int 2)).bind fun c12 =>
(Do c12.1 (Dv.int 0)).bind fun b13 =>
if b13=true then
(AK c12.2 (Dv.int 20)).bind fun c14 =>
(EB c14.2 c1_1 d7 c14.1).bind fun c15 =>
some (c15.2,c15.1)
else
some (c12.2,c11_1)
noncomputable def En (c1_1:Dv) (d7:Dv) (x9:Dv) (t10:Dv×Dv):Option (Dv×Dv):=
(Er t10.1 c1_1 d7 (Dv.int 20)).bind fun c11 =>
((Kq c1_1 d7 c11.1 c11.2)).bind fun t16 =>
Cu "list" t10.2 (
(Aa t10.2 [t16.2]).bind fun r17 =>
some (t16.1,r17.2))
noncomputable def Ku (c32_1:Dv) (x34:Dv) (t35:Dv):Option (Dv×Dv):=
(AA c32_1 (Dv.int 0)).bind fun d36 =>
(AK t35 d36).bind fun c37 =>
some (c37.1,c37.2)
noncomputable def II (c1_1:Dv) (d7:Dv) (x23:Dv) (x26:Dv) (t27:Dv):Option (Lp Dv (Dv) (Unit)):=
(AK t27 (Dv.int 8)).bind fun c28 =>
(AA (Dv.lst [(Dv.int 12),(Dv.int 4),(Dv.int 4),(Dv.int 40),(Dv.int 4),(Dv.int 4),(Dv.int 4),(Dv.int 4)]) c28.1).bind fun d29 =>
(AK c28.2 d29).bind fun c30 =>
(Af (Dv.int 1) c30.1).bind fun d31 =>
(DI c30.2 c1_1 d31).bind fun c32 =>
(Bd [d7]).bind fun s33 =>
EV s33 ((BD (Ku c32.1) s33 c32.2).bind fun p38 =>
(AZ (Dv.lst p38.1)).bind fun d39 =>
(AA x23 (Dv.int 0)).bind fun d40 =>
(AA x23 (Dv.int 1)).bind fun d41 =>
(Ao 200 c1_1 c32.1 d39 d40 d41 (Dv.dct [] [])).bind fun c42 =>
(KZ d39).bind fun d43 =>
(AA (Dv.lst [d39,d43]) x26).bind fun d44 =>
(GJ c1_1 x23 c32.1 d44).bind fun c45 =>
(CV c45 c42.1).bind fun c46 =>
bif UX c46 then
(KS c46).bind fun b47 =>
if (!b47)=true then
some (.rt (Dv.bl false) ())
else
some (.go p38.2)
else none)
noncomputable def Pf (x23:Dv) (t53_1:Dv) (t53_2:Dv):Option (Bool):=
(GK x23).bind fun c54 =>
(CV c54 t53_1).bind fun c55 =>
bif UX c55 then
(KS c55).bind fun b56 =>
if (!b56)=true then
some true
else
(GL x23).bind fun c57 =>
(CV c57 t53_2).bind fun c58 =>
bif UX c58 then
(KS c58).bind fun b59 =>
some (!b59)
else none
else none
noncomputable def Kv (c1_1:Dv) (d7:Dv) (x23:Dv) (t24:Dv):Option (Lp Dv (Dv) (Unit)):=
(Bd [(Dv.int 2)]).bind fun s25 =>
(Jt (II c1_1 d7 x23) s25 t24).bind fun l61=>l61.el (fun (t48:Dv) =>
(AA x23 (Dv.int 0)).bind fun d51 =>
(JM d51).bind fun c52 =>
(Vx [11,12] c52).bind fun (t53:Dv×Dv) =>
((Pf x23 t53.1 t53.2)).bind fun t60 =>
if t60=true then
some (.rt (Dv.bl false) ())
else
some (.go t48)) fun (e49:Dv) (r50:Unit) =>
some (.rt e49 ())
noncomputable def Te (a0:Dv):Option (Dv):=
(Co a0 (Dv.int 0)).bind fun c0 =>
(EA c0).bind fun c1 =>
(AK c1.2 (Dv.int 4)).bind fun c2 =>
(AA c1.1 (Dv.int 0)).bind fun d3 =>
(An d3).bind fun d4 =>
(Do d4 (Dv.int 0)).bind fun b5 =>
(EU (Dv.bl b5)).bind fun d6 =>
(Cc c2.1 d6).bind fun d7 =>
(Bd [(Dv.int 2)]).bind fun s8 =>
(Ap (En c1.1 d7) s8 (c2.2,(Dv.lst []))).bind fun t18 =>
(Co a0 (Dv.int 1)).bind fun c19 =>
(KU t18.2 none (some 1)).bind fun d20 =>
(Af t18.2 d20).bind fun d21 =>
(items d21).bind fun s22 =>
(Jt (Kv c1.1 d7) s22 c19).bind fun l65=>l65.el (fun (t62:Dv) =>
some (Dv.bl true)) fun (e63:Dv) (r64:Unit) =>
some e63
theorem cn:FD md ZF (top 23) [] 1=true:=by kernel_rfl
theorem cf:∀ ds,ds.length=(AC (top 23)).length->Bf md ZF (top 23) [] 1 ds=one Te ds:=aD (by kernel_rfl) fun _=>(by kernel_rfl)
end My
set_option maxHeartbeats 1000000
namespace R
open PySem L2
def Fd (x:Dv):Prop:=∃ a b:Int,x=.lst [.int a,.int b]
def Tx (N:Nat) (x:Dv):Prop:=∃ l,x=.str l/\l.length<=N/\∀ c∈l,c < 128
theorem Tx.mono {N M:Nat} {x:Dv} (h:Tx N x) (le:N<=M):Tx M x:=let ⟨l,e,h1,h2⟩:=h;⟨l,e,Nat.le_trans h1 le,h2⟩
section
variable {γ τ ρ:Type}
theorem Bn (g:Dv->γ->Option (Dv×γ)) (P:γ->Prop) (R:Dv->Prop):∀ (xs:List Dv) (c:γ),P c->(∀ x∈xs,∀ c,P c->∃ d c',g x c=some (d,c')/\R d/\P c')->∃ ds c',BD g xs c=some (ds,c')/\ds.length=xs.length/\(∀ d∈ds,R d)/\P c'
 | [],c,hc,_=>⟨[],c,rfl,rfl,fun _ z=>(List.not_mem_nil z).elim,hc⟩
 | x::xs,c,hc,h=>by
  obtain ⟨d,c1,e1,r1,p1⟩:=h x List.mem_cons_self c hc;obtain ⟨ds,c2,e2,l2,r2,p2⟩:=Bn g P R xs c1 p1 fun y hy=>h y (List.mem_cons_of_mem _ hy)
  refine ⟨d::ds,c2,by simp only [BD,e1,e2,Option.bind_some],by rw [List.length_cons,List.length_cons,l2],fun y hy=>?_,p2⟩;rcases List.mem_cons.mp hy with rfl | hy
  ·exact r1
  ·exact r2 y hy
theorem Gb (g:Dv->γ->Option γ) (I:Nat->γ->Prop):∀ (xs:List Dv) (k:Nat) (c:γ),I k c->(∀ i x,xs[i]?=some x->∀ c,I (k+i) c->∃ c',g x c=some c'/\I (k+i+1) c')->∃ c',Ap g xs c=some c'/\I (k+xs.length) c'
 | [],k,c,hc,_=>⟨c,rfl,hc⟩
 | x::xs,k,c,hc,h=>by
  obtain ⟨c1,e1,i1⟩:=h 0 x rfl c hc;obtain ⟨c2,e2,i2⟩:=Gb g I xs (k+1) c1 i1 fun i y hy c hc=>by
   have:=h (i+1) y hy c (by rw [show k+(i+1)=k+1+i by omega];exact hc);rw [show k+(i+1)+1=k+1+i+1 by omega] at this;exact this
  exact ⟨c2,by simp only [Ap,e1,e2,Option.bind_some],by rw [List.length_cons,show k+(xs.length+1)=k+1+xs.length by omega];exact i2⟩
theorem Jk (g:Dv->Option Dv) (R:Dv->Prop):∀ (xs:List Dv),(∀ x∈xs,∃ d,g x=some d/\R d)->∃ ds,Az g xs=some ds/\ds.length=xs.length/\∀ d∈ds,R d
 | [],_=>⟨[],rfl,rfl,fun _ z=>by cases z⟩
 | x::xs,h=>by
  obtain ⟨d,e1,r1⟩:=h x List.mem_cons_self;obtain ⟨ds,e2,l2,r2⟩:=Jk g R xs fun y hy=>h y (List.mem_cons_of_mem _ hy)
  refine ⟨d::ds,by simp only [Az,e1,e2,Option.bind_some],by rw [List.length_cons,List.length_cons,l2],fun y hy=>?_⟩;rcases List.mem_cons.mp hy with rfl | hy
  ·exact r1
  ·exact r2 y hy
theorem Aq {α:Type} {xs:List Dv} {o:Option α} (h:xs.length<=1000000):EV xs o=o:=by unfold EV;rw [if_pos h]
end
theorem atI_nat {α:Type} (xs:List α) (i:Nat) (h:i < xs.length):DV xs (i:Int)=some xs[i]:=by
 unfold DV Jo;rw [if_pos (by omega),if_pos (by omega)];simp [h]
theorem Fc {α:Type} {xs:List α} {i:Int} (h0:0<=i) (h:i < xs.length):∃ x∈xs,DV xs i=some x:=by
 obtain ⟨n,rfl⟩:∃ n:Nat,i=n:=⟨i.toNat,by omega⟩;exact ⟨xs[n]'(by omega),List.getElem_mem _,atI_nat xs n (by omega)⟩
theorem Mw {xs:List Dv} {i:Int} (h0:0<=i) (h:i < xs.length):∃ x∈xs,AA (.lst xs) (.int i)=some x:=Fc h0 h
theorem Sj {xs:List Dv} {i:Int} (h0:0<=i) (h:i < xs.length):∃ x∈xs,AA (.tup xs) (.int i)=some x:=Fc h0 h
theorem dR {l:List Nat} {i:Int} (h0:0<=i) (h:i < l.length) (hl:l.length<=1000000):∃ c∈l,AA (.str l) (.int i)=some (.str [c]):=by
 obtain ⟨c,hc,e⟩:=Fc h0 h;exact ⟨c,hc,by simp only [AA,if_pos hl,e,Option.map_some]⟩
theorem DJ {n:Int} (h0:-1000000000<=n) (h:n<=1000000000):Bd [.int n]=some ((List.range n.toNat).map fun k=>.int (k:Nat)):=by
 have:small n=true:=by unfold small;simp [h0,h]
 simp only [Bd,this,cond_true,Int.zero_add]
theorem NL (n:Nat) (h:n<=1000000):Bd [.int (n:Nat)]=some ((List.range n).map fun k=>.int (k:Nat)):=by
 have:=DJ (n:=(n:Int)) (by omega) (by omega);simpa using this
theorem DT {α:Type} (xs:List Dv) (o:Option α):Cu "list" (.lst xs) o=o:=rfl
theorem cE {α:Type} (l:List Nat) (o:Option α):Cu "str" (.str l) o=o:=rfl
theorem cD {α:Type} (xs:List Dv) (o:Option α):Cu "tuple" (.tup xs) o=o:=rfl
theorem Wa {α:Type} (xs:List Dv) (o:Option α):Cu "list" (.tup xs) o=none:=rfl
theorem fV {R:Type} (b:Bool) (k:Bool->Option R):Wv (.bl b) k=k b:=rfl
theorem dO {R:Type} (i:Int) (k:Int->Option R):aF (.int i) k=k i:=rfl
theorem TF (b:Bool):KS (.bl b)=some b:=rfl
theorem bu (b:Bool):UX (.bl b)=true:=rfl
theorem Kd {β:Type} {i j:Nat} (x y:Dv) (f:Dv×Dv->Option β):((Vx [i,j] (.tup [x,y])).bind fun (t:Dv×Dv)=>f t)=f (x,y):=rfl
theorem DA {xs:List Dv} {y:Dv} (h:xs.length<=1000000):Aa (.lst xs) [y]=some (.non,.lst (xs++[y])):=by simp only [Aa,if_pos h]
theorem cS {xs ys:List Dv} (h:xs.length+ys.length<=1000000):DR (.lst xs) [.lst ys]=some (.non,.lst (xs++ys)):=by simp only [DR,if_pos h]
theorem Il {α:Type} {xs:List α} {lo hi:Option Int} {x:α} (h:x∈cutA xs lo hi):x∈xs:=List.mem_of_mem_drop (List.mem_of_mem_take h)
theorem Mm {α:Type} (xs:List α) (lo hi:Option Int):(cutA xs lo hi).length<=xs.length:=by
 unfold cutA;rw [List.length_take,List.length_drop];omega
theorem Gg (l:List Nat) (lo hi:Option Int):Le l lo hi=cutA l lo hi:=rfl
theorem Da:∀ ls:List (List Nat),Am (ls.map Dv.str)=true
 | []=>rfl
 | x::xs=>by simp only [List.map_cons,Am,Dv.cmp,Da xs,Bool.and_self]
theorem DZ:∀ ls:List (List Nat),BB (ls.map Dv.str)=0
 | []=>rfl
 | x::xs=>by simp only [List.map_cons,BB,Dv.dep,DZ xs];rfl
theorem FA (x:List Nat):∀ ls:List (List Nat),IV (.str x) (ls.map Dv.str)=ls.contains x
 | []=>rfl
 | y::ys=>by
  have:=FA x ys;simp only [IV] at this;simp only [IV,List.map_cons,List.any_cons,this,List.contains_cons,eqV]
  by_cases e:y=x
  ·subst e;simp
  ·have e2:¬ x=y:=fun z=>e z.symm
   have h1:(y == x)=false:=by simpa using e
   have h2:(x == y)=false:=by simpa using e2
   rw [h1,h2]
theorem dN (neg:Bool) (x:List Nat) (ls:List (List Nat)):Ir neg (.str x) (.lst (ls.map Dv.str))=some (if neg=true then !ls.contains x else ls.contains x):=by
 simp only [Ir,dZ,Dv.cmp,Da,DZ,Bool.and_self,Nat.zero_le,decide_true,if_true,FA]
theorem Oa (neg:Bool) (x:List Nat) (ls:List (List Nat)):Ir neg (.str x) (.tup (ls.map Dv.str))=some (if neg=true then !ls.contains x else ls.contains x):=by
 simp only [Ir,dZ,Dv.cmp,Da,DZ,Bool.and_self,Nat.zero_le,decide_true,if_true,FA]
theorem BG (i j:Int):Af (.int i) (.int j)=some (.int (i+j)):=rfl
theorem KY (i j:Int) (h:0 < j):DB (.int i) (.int j)=some (.int (i % j)):=by simp only [DB,CD,h,decide_true,if_true]
theorem Bl (i j:Int):Do (.int i) (.int j)=some (decide (i=j)):=by
 simp only [SZ,Dv.cmp,Dv.dep,Bool.and_self,Nat.zero_le,decide_true,if_true,eqV,Bool.false_eq_true,if_false];congr 1
theorem Tx.cut {N:Nat} {x:Dv} (h:Tx N x) (hN:N<=1000000) (lo hi:Option Int):∃ y,KU x lo hi=some y/\Tx N y:=by
 obtain ⟨l,rfl,h1,h2⟩:=h;exact ⟨.str (Le l lo hi),by simp only [KU,if_pos (Nat.le_trans h1 hN)],_,rfl,by rw [Gg];exact Nat.le_trans (Mm _ _ _) h1,fun c hc=>h2 c (Il (by rw [<- Gg];exact hc))⟩
theorem Tx.add {N M:Nat} {x y:Dv} (h:Tx N x) (h':Tx M y) (hN:N+M<=1000000):∃ z,Af x y=some z/\Tx (N+M) z:=by
 obtain ⟨l,rfl,h1,h2⟩:=h;obtain ⟨l',rfl,h1',h2'⟩:=h';refine ⟨.str (l++l'),by simp only [Af,if_pos (show l.length+l'.length<=1000000 by omega)],_,rfl,by rw [List.length_append];omega,fun c hc=>?_⟩;rcases List.mem_append.mp hc with hc | hc
 ·exact h2 c hc
 ·exact h2' c hc
theorem XA {c:Nat} (h:c < 128):PyProof.Rows.up1 c < 128:=by
 unfold PyProof.Rows.up1;split<;>omega
theorem Tx.upper {N:Nat} {x:Dv} (h:Tx N x) (hN:N<=1000000):∃ y,FF x=some y/\Tx N y:=by
 obtain ⟨l,rfl,h1,h2⟩:=h;have e:(l.all (fun c=>decide (c < 128)) && decide (l.length<=1000000))=true:=by
  rw [Bool.and_eq_true];exact ⟨List.all_eq_true.mpr fun c hc=>decide_eq_true (h2 c hc),decide_eq_true (Nat.le_trans h1 hN)⟩
 refine ⟨.str (l.map PyProof.Rows.up1),by simp only [FF,e,if_true],_,rfl,by rw [List.length_map];exact h1,fun c hc=>?_⟩;obtain ⟨d,hd,rfl⟩:=List.mem_map.mp hc;exact XA (h2 d hd)
theorem HF:∀ ls:List (List Nat),HG (ls.map Dv.str)=some ls
 | []=>rfl
 | x::xs=>by simp only [List.map_cons,HG,HF xs,Option.map_some]
theorem LM:∀ {xs:List Dv},(∀ x∈xs,∃ c,x=.str [c]/\c < 128)->xs.length<=1000->∃ z,Gp (.str []) (.lst xs)=some z/\Tx xs.length z:=by
 intro xs h hl;have:∃ cs:List Nat,xs=(cs.map fun c=>[c]).map Dv.str/\∀ c∈cs,c < 128:=by
  clear hl
  induction xs with
  | nil=>exact ⟨[],rfl,fun _ z=>by cases z⟩
  | cons x xs ih =>
   obtain ⟨cs,e,h2⟩:=ih fun y hy=>h y (List.mem_cons_of_mem _ hy)
   obtain ⟨c,rfl,hc⟩:=h x List.mem_cons_self;refine ⟨c::cs,by rw [e];rfl,fun d hd=>?_⟩;rcases List.mem_cons.mp hd with rfl | hd
   ·exact hc
   ·exact h2 d hd
 obtain ⟨cs,e,h2⟩:=this;have hlen:xs.length=cs.length:=by rw [e];simp
 have hj:∀ cs:List Nat,jn [] (cs.map fun c=>[c])=cs:=by
  intro cs;cases cs with
  | nil=>rfl
  | cons a b =>
   show [a]++((b.map fun c=>[c]).flatMap fun y=>[]++y)=a::b;have:∀ b:List Nat,((b.map fun c=>[c]).flatMap fun y=>[]++y)=b:=by
    intro b
    induction b with
    | nil=>rfl
    | cons x y ih=>simp only [List.map_cons,List.flatMap_cons,ih];rfl
   rw [this];rfl
 have hs:((cs.map fun c=>[c]).map List.length).sum=cs.length:=by
  clear e h2 hlen
  induction cs with
  | nil=>rfl
  | cons a b ih=>rw [List.map_cons,List.map_cons,List.sum_cons,ih];simp;omega
 rw [e];refine ⟨.str cs,?_,cs,rfl,by simp,h2⟩;simp only [Gp,HF,hj];rw [if_pos (by rw [hs];simp;omega)]
end R
set_option maxHeartbeats 1000000
namespace My
open PySem L2 R
theorem AF {f:Dv} (hf:Fd f) {n:Int} (h0:0 < n) (h1:n < 1073741824):∃ (r:Nat) (f':Dv),AK f (.int n)=some (.int r,f')/\(r:Int) < n/\Fd f':=by
 obtain ⟨a,b,rfl⟩:=hf;have i0:∀ x y:Dv,AA (.lst [x,y]) (.int 0)=some x:=fun _ _=>rfl
 have i1:∀ x y:Dv,AA (.lst [x,y]) (.int 1)=some y:=fun _ _=>rfl
 have s0:∀ x y d:Dv,AS (.lst [x,y]) (.int 0) d=some (.lst [d,y]):=fun _ _ _=>rfl
 have s1:∀ x y d:Dv,AS (.lst [x,y]) (.int 1) d=some (.lst [x,d]):=fun _ _ _=>rfl
 have m:∀ x:Int,∃ r:Nat,x % n=r/\(r:Int) < n:=fun x=>⟨(x % n).toNat,by have:=Int.emod_nonneg x (show n≠0 by omega);omega,by have:=Int.emod_nonneg x (show n≠0 by omega);have:=Int.emod_lt_of_pos x h0;omega⟩
 have big1:big 48271=true:=by decide
 have big2:big 40692=true:=by decide
 have big3:big 2147483647=true:=by decide
 unfold AK;simp only [i0,Option.bind_some,Bv]
 by_cases h:0 < a
 ·obtain ⟨r,e,hr⟩:=m a;refine ⟨r,.lst [.int (a / n),.int b],?_,hr,a / n,b,rfl⟩;simp only [h,decide_true,if_true,DB,Sk,CD,h0,h1,Bool.and_self,Option.bind_some,i0,s0,e]
 ·simp only [h,decide_false,Bool.false_eq_true,if_false,i1,s1,Bw,big1,big2,big3,Bool.or_true,if_true,Option.bind_some,DB,Sk,CD,Af,h0,decide_true,show (0:Int) < 2147483647 by decide,show (0:Int) < 2147483399 by decide,show (0:Int) < 8191 by decide,show (8191:Int) < 1073741824 by decide,Bool.and_self];obtain ⟨r,e,hr⟩:=m (((b * 48271 % 2147483647) * 2147483647+((b * 48271 % 2147483647 * 40692+30103) % 2147483399+1)) / 8191);exact ⟨r,_,by rw [e],hr,_,_,rfl⟩
theorem Hh {ns:List Int} {k:Nat}:∃ f,Co (.scr ns) (.int k)=some f/\Fd f:=by
 have b1:big 7907=true:=by decide
 have b2:big 2147483629=true:=by decide
 have b3:big 31=true:=by decide
 have b4:big 48271=true:=by decide
 have b5:big 40692=true:=by decide
 have c1:∃ c:Int,GB (.scr ns) (.int k) (.int (7907 * k+13579))=some (.int c):=by
  unfold GB JL;simp only [An,Option.bind_some,Bv]
  by_cases h:(k:Int) < ns.length
  ·simp only [h,decide_true,if_true,AA,atI_nat ns k (by omega),Option.map_some,Option.bind_some];exact ⟨_,rfl⟩
  ·simp only [h,decide_false,Bool.false_eq_true,if_false]
   by_cases h2:0 < (ns.length:Int)
   ·have e:=Int.emod_nonneg (k:Int) (show (ns.length:Int)≠0 by omega);have e':=Int.emod_lt_of_pos (k:Int) h2;obtain ⟨x,_,ex⟩:=Fc e e';simp only [h2,decide_true,if_true,DB,CD,Option.bind_some,AA,ex,Option.map_some,Bw,b1,b3,Bool.true_or,Bool.or_true,Af,show (0:Int) < 2147483629 by decide];exact ⟨_,rfl⟩
   ·simp only [h2,decide_false,Bool.false_eq_true,if_false];exact ⟨_,rfl⟩
 obtain ⟨c,e⟩:=c1;have c2:∃ d:Int,GA (.int c)=some (.int d):=by
  unfold GA;simp only [Zs,CD,show (decide ((0:Int)<=18) && decide ((18:Int)<=1000000) && decide ((10:Int).natAbs < 2 ^ 64))=true by decide,if_true,Option.bind_some,Bv];split<;>exact ⟨_,rfl⟩
 obtain ⟨d,e2⟩:=c2;unfold Co;simp only [Bw,b1,b4,b5,Bool.true_or,Bool.or_true,if_true,Option.bind_some,Af,e,e2,DB,CD,show (0:Int) < 2147483629 by decide,show (0:Int) < 2147483646 by decide,decide_true];exact ⟨_,rfl,_,_,rfl⟩
noncomputable abbrev Zr:List Nat:=[97,98,99,100,101,102,103,104,105,106,107,108,109,110,111,112,113,114,115,116,117,118,119,120,121,122]
theorem Zq:∀ c∈Zr,c < 128:=by decide
theorem Yj {i:Int} (h0:0<=i) (h:i < 26):∃ c,AA (.str Zr) (.int i)=some (.str [c])/\c < 128:=by
 obtain ⟨c,hc,e⟩:=dR (l:=Zr) h0 (show i < ((26:Nat):Int) by omega) (by decide);exact ⟨c,e,Zq c hc⟩
theorem IG {c:Nat} (h:c < 128):Tx 1 (.str [c]):=⟨[c],rfl,by simp,fun d hd=>by rw [List.mem_singleton] at hd;subst hd;exact h⟩
theorem NI {f:Dv} (hf:Fd f) (xs:List Dv) (hl:xs.length<=1000):∃ z f',(∃ ds,BD DF xs f=some (ds,f')/\Gp (.str []) (.lst ds)=some z)/\Tx xs.length z/\Fd f':=by
 obtain ⟨ds,f',e,hl2,hd,hf'⟩:=Bn DF Fd (fun d=>∃ c,d=.str [c]/\c < 128) xs f hf fun x _ c hc=>by
  obtain ⟨r,f',e,hr,hf'⟩:=AF hc (n:=26) (by decide) (by decide);obtain ⟨c,e2,hc⟩:=Yj (i:=r) (by omega) hr;exact ⟨.str [c],f',by unfold DF;simp only [e,e2,Option.bind_some],⟨c,rfl,hc⟩,hf'⟩
 obtain ⟨z,e2,hz⟩:=LM hd (by omega);exact ⟨z,f',⟨ds,e,e2⟩,by rw [hl2] at hz;exact hz,hf'⟩
theorem gV {α:Type} (xs:List α) (r:Nat):(cutA xs none (some (r:Int))).length<=r:=by
 unfold cutA;rw [List.length_take];unfold HT.sIx;simp only [];split<;>omega
theorem fG {α:Type} (xs:List α) (r:Nat) (h:Option Int):(cutA xs (some (r:Int)) h).length<=xs.length - r:=by
 unfold cutA;rw [List.length_take,List.length_drop];have:HT.sIx xs.length 0 (some (r:Int))=min r xs.length:=by unfold HT.sIx;simp only [];split<;>omega
 omega
theorem gP {N:Nat} {l:List Nat} (hN:l.length<=1000000) (h:∀ c∈l,c < 128) {lo hi:Option Int} (hl:(cutA l lo hi).length<=N):∃ y,KU (.str l) lo hi=some y/\Tx N y:=
 ⟨.str (Le l lo hi),by simp only [KU,if_pos hN],_,rfl,by rw [Gg];exact hl,fun c hc=>h c (Il (by rw [<- Gg];exact hc))⟩
def Nm (p:List Nat) (c:Nat) (x:Dv):Prop:=∃ t,x=.str (p++c::t)
theorem Ud {i:Int} (h0:0<=i) (h:i < 26):AA (.str Zr) (.int i)=some (.str [97+i.toNat]):=by
 obtain ⟨n,rfl⟩:∃ n:Nat,i=n:=⟨i.toNat,by omega⟩;have hn:n < 26:=by omega
 have e:∀ k < 26,Zr[k]?=some (97+k):=by decide
 have:=atI_nat Zr n hn;have e2:=e n hn;rw [List.getElem?_eq_getElem hn] at e2;simp only [AA,if_pos (show Zr.length<=1000000 by decide),this,Option.some.inj e2,Option.map_some,Int.toNat_natCast]
noncomputable def ch (r i:Nat):Nat:=97+(r+7 * i) % 26
theorem cq {r i j:Nat} (hi:i < 26) (hj:j < 26) (h:i≠j):ch r i≠ch r j:=by unfold ch;omega
theorem Re {l:List Nat} {r:Nat} (h:r<=l.length):Le l none (some (r:Int))=l.take r:=by
 rw [Gg];unfold cutA;have a:HT.sIx l.length 0 none=0:=rfl;have b:HT.sIx l.length l.length (some (r:Int))=r:=by unfold HT.sIx;simp only [];split<;>omega
 rw [a,b];simp
theorem Sb {a b:List Nat} (h:a.length+b.length<=1000000):Af (.str a) (.str b)=some (.str (a++b)):=by simp only [Af,if_pos h]
theorem LI {l:List Nat} (h:Tx 4 (.str l)):∃ u,Eg (.str l)=some (.str (l++u))/\Tx 5 (.str (l++u)):=by
 obtain ⟨_,e0,h1,h2⟩:=id h;cases e0;unfold Eg;have e:=Oa false l [[100,101,102],[108,101,116],[116,101,108,108],[108,111,111,112],[112,105,99,107],[99,97,108,108]];simp only [List.map_cons,List.map_nil,Bool.false_eq_true,if_false] at e;simp only [e,Option.bind_some];split
 ·obtain ⟨z,e1,hz⟩:=h.add (IG (c:=113) (by decide)) (by decide);rw [Sb (by simp;omega)] at e1;cases e1;exact ⟨[113],by rw [Sb (by simp;omega)];rfl,hz⟩
 ·exact ⟨[],by rw [List.append_nil],by rw [List.append_nil];exact h.mono (by decide)⟩
theorem GS {f:Dv} (hf:Fd f) {n:Nat} (h2:2<=n) (hn:n<=26):∃ ns f',CB f (.int n)=some (.lst ns,f')/\ns.length=n/\(∀ x∈ns,Tx 5 x)/\ns.Pairwise (·≠·)/\Fd f':=by
 obtain ⟨r1,f1,e1,b1,hf1⟩:=AF hf (n:=4) (by decide) (by decide);have er:Bd [.int r1]=some ((List.range (r1:Int).toNat).map fun k=>.int (k:Nat)):=DJ (by omega) (by omega);obtain ⟨z,f2,⟨ds,e3,e4⟩,hz,hf2⟩:=NI hf1 ((List.range (r1:Int).toNat).map fun k=>.int (k:Nat)) (by simp;omega);have hz:Tx 3 z:=hz.mono (by simp;omega);obtain ⟨zl,rfl,hz1,hz2⟩:=hz;obtain ⟨r7,f7,e7,b7,hf7⟩:=AF hf2 (n:=26) (by decide) (by decide);have el:An (.str zl)=some (.int zl.length):=by simp only [An,if_pos (show zl.length<=1000000 by omega)]
 obtain ⟨r10,f10,e10,b10,hf10⟩:=AF hf7 (n:=(zl.length:Int)+1) (by omega) (by omega);obtain ⟨r11,f11,e11,b11,hf11⟩:=AF hf10 (n:=4) (by decide) (by decide);have en:Bd [.int n]=some ((List.range (n:Int).toNat).map fun k=>.int (k:Nat)):=DJ (by omega) (by omega);obtain ⟨c,e12,ns,rfl,hl,hns,hnm⟩:=Gb (Eo (.str zl) (.int r7) (.int r10) (.int r11)) (fun i c=>∃ ns,c=.lst ns/\ns.length=i/\(∀ x∈ns,Tx 5 x)/\∀ j x,ns[j]?=some x->Nm (zl.take r10) (ch r7 j) x) ((List.range (n:Int).toNat).map fun k=>.int (k:Nat)) 0 (.lst []) ⟨[],rfl,rfl,(fun _ z=>(List.not_mem_nil z).elim),fun j x h=>by simp at h⟩ fun i x hx c hc=>by
  obtain ⟨ns,rfl,hl,hns,hnm⟩:=hc;rw [List.getElem?_map] at hx;have hi:i < n:=by
   rcases Nat.lt_or_ge i n with h | h
   ·exact h
   ·rw [List.getElem?_eq_none (by simp;omega)] at hx;cases hx
  rw [List.getElem?_eq_getElem (by simp;omega)] at hx;simp only [Option.map_some,Option.some.injEq,List.getElem_range] at hx;subst hx;have ec:=Ud (i:=((r7:Int)+7 * (i:Nat)) % 26) (Int.emod_nonneg _ (by decide)) (Int.emod_lt_of_pos _ (by decide));have ecc:97+(((r7:Int)+7 * (i:Nat)) % 26).toNat=ch r7 i:=by unfold ch;omega
  rw [ecc] at ec;have hc:ch r7 i < 128:=by unfold ch;omega
  have r10l:r10<=zl.length:=by omega
  have ey1:KU (.str zl) none (some (r10:Int))=some (.str (zl.take r10)):=by simp only [KU,if_pos (show zl.length<=1000000 by omega),Re r10l]
  have hy1:Tx r10 (.str (zl.take r10)):=⟨_,rfl,by simp;omega,fun c hc=>hz2 c (List.mem_of_mem_take hc)⟩;have ey2:=Sb (a:=zl.take r10) (b:=[ch r7 i]) (by simp;omega);obtain ⟨y2',ey2',hy2⟩:=hy1.add (IG hc) (by omega);rw [ey2] at ey2';cases ey2';obtain ⟨y3,ey3,hy3⟩:=gP (by omega) hz2 (fG zl r10 (some (((r11:Int)+(i:Nat)) % 4)));obtain ⟨t3,rfl,ht3,_⟩:=id hy3;have ey4:=Sb (a:=zl.take r10++[ch r7 i]) (b:=t3) (by simp;omega);obtain ⟨y4',ey4',hy4⟩:=hy2.add hy3 (by omega);rw [ey4] at ey4';cases ey4';obtain ⟨u,ey5,hy5⟩:=LI (hy4.mono (by omega));refine ⟨.lst (ns++[.str (zl.take r10++[ch r7 i]++t3++u)]),?_,ns++[.str (zl.take r10++[ch r7 i]++t3++u)],rfl,by rw [List.length_append,hl];rfl,fun x hx=>?_,fun j x hx=>?_⟩
  ·have b7:big 7=true:=by decide
   unfold Eo;simp only [Bw,b7,Bool.true_or,if_true,Option.bind_some,BG,KY _ _ (show (0:Int) < 26 by decide),KY _ _ (show (0:Int) < 4 by decide),ec,dO,ey1,ey3];rw [ey2];simp only [Option.bind_some];rw [ey4];simp only [Option.bind_some,ey5,DT,DA (show ns.length<=1000000 by omega)]
  ·rcases List.mem_append.mp hx with hx | hx
   ·exact hns x hx
   ·rw [List.mem_singleton] at hx;subst hx;exact hy5
  ·rcases Nat.lt_or_ge j ns.length with w | w
   ·rw [List.getElem?_append_left w] at hx;exact hnm j x hx
   ·have hj:j=ns.length:=by have:=(List.getElem?_eq_some_iff.mp hx).1;simp at this;omega
    subst hj;rw [List.getElem?_append_right (Nat.le_refl _),Nat.sub_self] at hx;cases hx;rw [hl,Nat.zero_add];exact ⟨t3++u,by simp⟩
 have hl:ns.length=n:=by rw [hl];simp
 have WU:∀ i j x y,i≠j->i < 26->j < 26->Nm (zl.take r10) (ch r7 i) x->Nm (zl.take r10) (ch r7 j) y->x≠y:=fun i j x y ne hi hj ⟨t,e⟩ ⟨t',e'⟩ q=>by
  rw [e,e',Dv.str.injEq] at q;have:=List.append_cancel_left q;exact cq hi hj ne (List.cons.inj this).1
 have nd:ns.Pairwise (·≠·):=List.pairwise_iff_getElem.mpr fun i j hi hj lt=>WU i j _ _ (by omega) (by omega) (by omega) (hnm i _ (List.getElem?_eq_getElem hi)) (hnm j _ (List.getElem?_eq_getElem hj))
 have last:∃ ms f',Ef (.int n) f11 (.lst ns)=some (f',.lst ms)/\ms.length=n/\(∀ x∈ms,Tx 5 x)/\ms.Pairwise (·≠·)/\Fd f':=by
  have m2:∃ x∈ns,AA (.lst ns) (.int (-2))=some x/\ns[n - 2]?=some x:=by
   refine ⟨ns[n - 2]'(by omega),List.getElem_mem _,?_,List.getElem?_eq_getElem (by omega)⟩;simp only [AA,DV,Jo];rw [if_neg (by omega),if_pos (by omega)];simp only [Option.bind_some];rw [show (-2+(ns.length:Int)).toNat=n - 2 by omega];exact List.getElem?_eq_getElem (by omega)
  obtain ⟨x,hx,ex,ex2⟩:=m2;obtain ⟨l,rfl,hl1,hl2⟩:=id (hns x hx);have t1:∃ (b:Bool) (f':Dv),Ea (.int n) f11 (.lst ns)=some (b,f')/\(b=true->l.length<=3)/\Fd f':=by
   unfold Ea HM;simp only [Bv,show (1:Int) < n by omega,decide_true,if_true,Option.bind_some,DW,ex,An,if_pos (show l.length<=1000000 by omega)];split
   ·rename_i hlt;obtain ⟨r,f',e,_,h⟩:=AF hf11 (n:=4) (by decide) (by decide);simp only [e,Option.bind_some,Bl];exact ⟨_,_,rfl,fun _=>by have:=of_decide_eq_true hlt;omega,h⟩
   ·exact ⟨_,_,rfl,(fun z=>by cases z),hf11⟩
  obtain ⟨b,f',et,hb3,hf'⟩:=t1;unfold Ef;simp only [et,Option.bind_some];cases b
  ·exact ⟨ns,f',by simp,hl,hns,nd,hf'⟩
  ·have ey:=Sb (a:=l) (b:=[113]) (by have:=hb3 rfl;simp;omega);obtain ⟨y',ey',hy⟩:=Tx.add (N:=3) (M:=1) ⟨l,rfl,hb3 rfl,hl2⟩ (IG (c:=113) (by decide)) (by decide);rw [ey] at ey';cases ey';simp only [if_true,DW,Option.bind_some,ex,ey,AS,Jo];rw [if_neg (by omega),if_pos (by omega)];refine ⟨_,f',rfl,by rw [List.length_set];exact hl,fun x hx=>?_,?_,hf'⟩
   ·rcases List.mem_or_eq_of_mem_set hx with hx | rfl
    ·exact hns x hx
    ·exact hy.mono (by decide)
   ·have k1:(-1+(ns.length:Int)).toNat=n - 1:=by omega
    rw [k1];refine List.pairwise_iff_getElem.mpr fun i j hi hj lt=>?_
    rw [List.length_set] at hi hj;rw [List.getElem_set,List.getElem_set,if_neg (show ¬ n - 1=i by omega)];have hi':=hnm i _ (List.getElem?_eq_getElem hi);split
    ·rename_i ej;obtain ⟨t,et⟩:=hnm (n - 2) _ ex2
     by_cases e2:i=n - 2
     ·subst e2;have:ns[n - 2]=.str l:=by rw [List.getElem?_eq_getElem hi] at ex2;exact Option.some.inj ex2
      rw [this];intro q;have:=congrArg List.length (Dv.str.inj q);simp at this
     ·refine WU i (n - 2) _ _ e2 (by omega) (by omega) hi' ⟨t++[113],?_⟩;rw [Dv.str.inj et];simp
    ·exact WU i j _ _ (by omega) (by omega) (by omega) hi' (hnm j _ (List.getElem?_eq_getElem hj))
 obtain ⟨ms,f',e13,hl3,hms,hnd,hf'⟩:=last;refine ⟨ms,f',?_,hl3,hms,hnd,hf'⟩;unfold CB;simp only [cE,e1,er,Option.bind_some];rw [Aq (by simp;omega)];simp only [Option.bind_some,e3,e4,e7,el,BG,e10,e11,en];rw [e12];simp only [Option.bind_some,e13]
def eE (n:Nat) (xs:List Dv):Prop:=∀ y∈xs,∃ r:Nat,y=.int r/\r < n
def Row (n:Nat) (x:Dv):Prop:=∃ xs,x=.tup xs/\xs.length=n/\eE n xs
def Tab (n:Nat) (r:Int) (x:Dv):Prop:=(r=1/\Row n x)\/(r=2/\∃ xs,x=.tup xs/\xs.length=n/\∀ y∈xs,Row n y)
def FG (N:Nat) (x:Dv):Prop:=∃ a r,x=.tup [a,.int r]/\Tx N a/\(r=1\/r=2)
def fZ (n:Nat) (d t:Dv):Prop:=∃ a r,d=.tup [a,.int r]/\(r=1\/r=2)/\Tab n r t
noncomputable def FR (d:Dv):Dv:=match d with | .tup (a::_)=>a | _=>.non
theorem KI {γ:Type} (g:Dv->γ->Option (Dv×γ)) (P:γ->Prop) (R:Nat->Dv->Prop):∀ (xs:List Dv) (o:Nat) (c:γ),P c->(∀ i x,xs[i]?=some x->∀ c,P c->∃ d c',g x c=some (d,c')/\R (o+i) d/\P c')->∃ ds c',BD g xs c=some (ds,c')/\ds.length=xs.length/\(∀ i d,ds[i]?=some d->R (o+i) d)/\P c'
 | [],o,c,hc,_=>⟨[],c,rfl,rfl,(fun i d h=>by simp at h),hc⟩
 | x::xs,o,c,hc,h=>by
  obtain ⟨d,c1,e1,r1,p1⟩:=h 0 x rfl c hc;obtain ⟨ds,c2,e2,l2,r2,p2⟩:=KI g P R xs (o+1) c1 p1 fun i y hy c hc=>by
   have:=h (i+1) y hy c hc;rw [show o+(i+1)=o+1+i by omega] at this;exact this
  refine ⟨d::ds,c2,by simp only [BD,e1,e2,Option.bind_some],by rw [List.length_cons,List.length_cons,l2],fun i y hy=>?_,p2⟩;cases i with
  | zero=>simp at hy;subst hy;exact r1
  | succ i=>have:=r2 i y (by simpa using hy);rw [show o+(i+1)=o+1+i by omega];exact this
theorem Kr {f:Dv} (hf:Fd f):∃ fs ds f',EA f=some (.tup [.tup fs,.tup ds],f')/\fs.length<=4/\(∀ x∈fs,Tx 10 x)/\ds.length<=4/\(∀ x∈ds,FG 5 x)/\ds.Pairwise (fun x y=>FR x≠FR y)/\Fd f':=by
 obtain ⟨ns,f1,e1,hl,hns,_,hf1⟩:=GS hf (n:=4) (by decide) (by decide);obtain ⟨r2,f2,e2,b2,hf2⟩:=AF hf1 (n:=5) (by decide) (by decide);have h3:∀ x∈cutA ns none (some (r2:Int)),Tx 5 x:=fun x hx=>hns x (Il hx)
 have l3:=Mm ns none (some (r2:Int));obtain ⟨ps,e4,l4,h4⟩:=Jk Em (Tx 10) (cutA ns none (some (r2:Int))) fun x hx=>by
  obtain ⟨y1,ey1,hy1⟩:=(h3 x hx).cut (by decide) none (some 1);obtain ⟨l1,rfl,_,_⟩:=id hy1;obtain ⟨y2,ey2,hy2⟩:=hy1.upper (by decide);obtain ⟨y3,ey3,hy3⟩:=(h3 x hx).cut (by decide) (some 1) none;obtain ⟨y4,ey4,hy4⟩:=hy2.add hy3 (by decide);exact ⟨y4,by unfold Em;simp only [ey1,cE,ey2,ey3,ey4,Option.bind_some],hy4⟩
 obtain ⟨ms,f10,e10,hl10,hms,hnd,hf10⟩:=GS hf2 (n:=4) (by decide) (by decide);obtain ⟨r11,f11,e11,b11,hf11⟩:=AF hf10 (n:=8) (by decide) (by decide);have m:∀ x∈[(Dv.int 1),(Dv.int 2),(Dv.int 3),(Dv.int 2),(Dv.int 4),(Dv.int 1),(Dv.int 2),(Dv.int 0)],∃ k:Nat,x=.int k/\k<=4:=by
  intro x hx;simp only [List.mem_cons,List.not_mem_nil,or_false] at hx;rcases hx with rfl | rfl | rfl | rfl | rfl | rfl | rfl | rfl
  all_goals first | exact ⟨4,rfl,by decide⟩ | exact ⟨0,rfl,by decide⟩ | exact ⟨1,rfl,by decide⟩ | exact ⟨2,rfl,by decide⟩ | exact ⟨3,rfl,by decide⟩
 obtain ⟨x,hx,ex⟩:=Mw (xs:=[(Dv.int 1),(Dv.int 2),(Dv.int 3),(Dv.int 2),(Dv.int 4),(Dv.int 1),(Dv.int 2),(Dv.int 0)]) (i:=r11) (by omega) b11;obtain ⟨k,rfl,hk⟩:=m x hx;have er:Bd [.int k]=some ((List.range (k:Int).toNat).map fun j=>.int (j:Nat)):=DJ (by omega) (by omega);obtain ⟨qs,f16,e16,l6,h6,hf16⟩:=KI (El (.lst ms)) Fd (fun j d=>∃ a r,ms[j]?=some a/\d=.tup [a,.int r]/\Tx 5 a/\(r=1\/r=2)) ((List.range (k:Int).toNat).map fun j=>.int (j:Nat)) 0 f11 hf11 fun i x hx c hc=>by
  rw [List.getElem?_map] at hx;have hi:i < k:=by
   rcases Nat.lt_or_ge i k with h | h
   ·exact h
   ·rw [List.getElem?_eq_none (by simp;omega)] at hx;cases hx
  rw [List.getElem?_eq_getElem (by simp;omega)] at hx;simp only [Option.map_some,Option.some.injEq,List.getElem_range] at hx;subst hx;have ea:AA (.lst ms) (.int (i:Nat))=some ms[i]:=atI_nat ms i (by omega);obtain ⟨r,f',e,b,hf'⟩:=AF hc (n:=2) (by decide) (by decide);exact ⟨.tup [ms[i],.int (1+r)],f',by unfold El;simp only [ea,e,Option.bind_some,BG],⟨ms[i],1+r,by rw [Nat.zero_add];exact List.getElem?_eq_getElem (by omega),rfl,hms _ (List.getElem_mem _),by omega⟩,hf'⟩
 have h6':∀ x∈qs,FG 5 x:=fun x hx=>by
  obtain ⟨i,hi⟩:=List.getElem?_of_mem hx;obtain ⟨a,r,_,rfl,h⟩:=h6 i x hi;exact ⟨a,r,rfl,h⟩
 have h7:qs.Pairwise (fun x y=>FR x≠FR y):=List.pairwise_iff_getElem.mpr fun i j hi hj lt=>by
  obtain ⟨a,r,ea,e,_⟩:=h6 i _ (List.getElem?_eq_getElem hi);obtain ⟨b,q,eb,e',_⟩:=h6 j _ (List.getElem?_eq_getElem hj);rw [e,e'];show a≠b;rw [Nat.zero_add] at ea eb;obtain ⟨h1,rfl⟩:=List.getElem?_eq_some_iff.mp ea;obtain ⟨h2,rfl⟩:=List.getElem?_eq_some_iff.mp eb;exact List.pairwise_iff_getElem.mp hnd i j h1 h2 lt
 refine ⟨ps,qs,f16,?_,by omega,h4,by rw [l6];simp;omega,h6',h7,hf16⟩;have e1':CB f (.int 4)=some (.lst ns,f1):=e1;have e10':CB f2 (.int 4)=some (.lst ms,f10):=e10;unfold EA;simp only [e1',e2,Option.bind_some,dO,KU,items];rw [Aq (by omega),e4];simp only [Option.bind_some,e10',e11];rw [ex];simp only [Option.bind_some,er];rw [Aq (by simp;omega),e16];rfl
theorem GM (g:Dv->Dv->Dv->Option (Dv×Dv)) (hg:∀ x2 it c,g x2 it c=(AK c x2).bind fun r=>some (r.1,r.2)) {n:Nat} (h0:0 < n) (h1:n<=1000) {f:Dv} (hf:Fd f) (xs:List Dv):∃ ts f',BD (g (.int n)) xs f=some (ts,f')/\ts.length=xs.length/\eE n ts/\Fd f':=
 Bn (g (.int n)) Fd (fun y=>∃ r:Nat,y=.int r/\r < n) xs f hf fun x hx c hc=>by
  obtain ⟨r,f',e,b,hf'⟩:=AF hc (n:=n) (by omega) (by omega);exact ⟨.int r,f',by rw [hg,e];rfl,⟨r,rfl,by omega⟩,hf'⟩
theorem Hg (g:Dv->(Dv×Dv)->Option (Dv×Dv)) (P:Dv->Prop) (R:Dv->Dv->Prop):∀ (xs:List Dv) (f:Dv) (acc:List Dv),P f->acc.length+xs.length<=1000->(∀ x∈xs,∀ f acc,P f->acc.length<=1000->∃ f' t,g x (f,.lst acc)=some (f',.lst (acc++[t]))/\R x t/\P f')->∃ f' ts,Ap g xs (f,.lst acc)=some (f',.lst (acc++ts))/\Paired R xs ts/\P f'
 | [],f,acc,hf,_,_=>⟨f,[],by simp only [Ap,List.append_nil],.nil,hf⟩
 | x::xs,f,acc,hf,hl,h=>by
  rw [List.length_cons] at hl;obtain ⟨f1,t,e1,r1,h1⟩:=h x List.mem_cons_self f acc hf (by omega);obtain ⟨f2,ts,e2,r2,h2⟩:=Hg g P R xs f1 (acc++[t]) h1 (by rw [List.length_append];simp;omega) fun y hy=>h y (List.mem_cons_of_mem _ hy)
  exact ⟨f2,t::ts,by simp only [Ap,e1,Option.bind_some,e2,List.append_assoc,List.singleton_append],.cons r1 r2,h2⟩
theorem Kb {f:Dv} (hf:Fd f) {fs ds:List Dv} {n:Nat} (h0:0 < n) (h1:n<=1000) (hfs:fs.length<=100) (hds:ds.length<=100) (hd:∀ x∈ds,∃ a r,x=.tup [a,.int r]/\(r=1\/r=2)):∃ ts tbs f',DI f (.tup [.tup fs,.tup ds]) (.int n)=some (.tup [.int n,.tup ts,.tup tbs],f')/\ts.length=fs.length/\eE n ts/\Paired (fZ n) ds tbs/\Fd f':=by
  obtain ⟨ts,f1,e1,l1,h1',hf1⟩:=GM HV (fun _ _ _=>rfl) h0 h1 hf fs;have er:Bd [.int n]=some ((List.range (n:Int).toNat).map fun j=>.int (j:Nat)):=DJ (by omega) (by omega);have lr:((List.range (n:Int).toNat).map fun j=>Dv.int (j:Nat)).length=n:=by simp
  obtain ⟨f2,tbs,e2,p2,hf2⟩:=Hg (DG (.int n)) Fd (fZ n) ds f1 [] hf1 (by simp;omega) fun x hx f acc hf hl=>by
    obtain ⟨a,r,rfl,hr⟩:=hd x hx;rcases hr with rfl | rfl
    · obtain ⟨ys,f',e,l,hy,hf'⟩:=GM HU (fun _ _ _=>rfl) h0 h1 hf ((List.range (n:Int).toNat).map fun j=>.int (j:Nat));refine ⟨f',.tup ys,?_,⟨a,1,rfl,.inl rfl,.inl ⟨rfl,ys,rfl,by rw [l,lr],hy⟩⟩,hf'⟩;unfold DG Ec;simp only [Kd,Option.bind_some,Bl,decide_true,if_true,er,DT];rw [Aq (by omega),e];simp only [Option.bind_some,AZ,DA (show acc.length<=1000000 by omega)]
    · obtain ⟨ys,f',e,l,hy,hf'⟩:=Bn (Ej (.int n)) Fd (Row n) ((List.range (n:Int).toNat).map fun j=>.int (j:Nat)) f hf fun x hx c hc=>by
        obtain ⟨zs,f',e,l,hz,hf'⟩:=GM HS (fun _ _ _=>rfl) h0 h1 hc ((List.range (n:Int).toNat).map fun j=>.int (j:Nat));refine ⟨.tup zs,f',?_,⟨zs,rfl,by rw [l,lr],hz⟩,hf'⟩;unfold Ej;simp only [Option.bind_some,er];rw [Aq (by omega),e];simp only [Option.bind_some,AZ]
      refine ⟨f',.tup ys,?_,⟨a,2,rfl,.inr rfl,.inr ⟨rfl,ys,rfl,by rw [l,lr],hy⟩⟩,hf'⟩;unfold DG Ec;simp only [Kd,Option.bind_some,Bl,show decide ((2:Int)=1)=false by decide,Bool.false_eq_true,if_false,er,DT];rw [Aq (by omega),e];simp only [Option.bind_some,AZ,DA (show acc.length<=1000000 by omega)]
  refine ⟨ts,tbs,f2,?_,l1,h1',p2,hf2⟩;have i0:AA (.tup [.tup fs,.tup ds]) (.int 0)=some (.tup fs):=rfl;have i1:AA (.tup [.tup fs,.tup ds]) (.int 1)=some (.tup ds):=rfl;unfold DI;simp only [i0,i1,Option.bind_some,items];rw [Aq (by omega),e1];simp only [Option.bind_some,AZ];rw [e2];rfl
noncomputable def nI (ts:List Nat):List Dv:=ts.map fun t=>Dv.int (t:Nat)
def tI (ts:List Nat):Dv:=.tup (nI ts)
theorem Ay (ts:List Nat):(nI ts).length=ts.length:=by simp [nI]
theorem IT (a b:List Nat):nI (a++b)=nI a++nI b:=by simp [nI]
theorem IB {n:Nat}:∀ {xs:List Dv},eE n xs->∃ ts,xs=nI ts/\∀ t∈ts,t < n
 | [],_=>⟨[],rfl,fun _ h=>by cases h⟩
 | x::xs,h=>by
  obtain ⟨ts,e,ht⟩:=IB (xs:=xs) fun y hy=>h y (List.mem_cons_of_mem _ hy)
  obtain ⟨r,rfl,hr⟩:=h x List.mem_cons_self;refine ⟨r::ts,by rw [e];rfl,fun t h=>?_⟩;rcases List.mem_cons.mp h with rfl | h
  ·exact hr
  ·exact ht t h
theorem Bp {ts:List Nat} {h:Nat} (hh:h < ts.length):AA (tI ts) (.int (h:Nat))=some (.int (ts.getD h 0:Nat)):=by
 show DV (nI ts) (h:Int)=_;rw [atI_nat _ _ (by rw [Ay];exact hh)];simp [nI,List.getD,hh]
theorem getD_mem {ts:List Nat} {h:Nat} (hh:h < ts.length):ts.getD h 0∈ts:=by
 simp [List.getD,hh]
def sub (x:Dv) (a:Nat):Dv:=(AA x (.int (a:Nat))).getD .non
def Wu (x:Dv) (a:Nat):Nat:=match sub x a with | .int c=>c.toNat | _=>0
theorem MK {n:Nat} {x:Dv} {a:Nat} (h:Row n x) (ha:a < n):AA x (.int (a:Nat))=some (.int (Wu x a:Nat))/\Wu x a < n:=by
 obtain ⟨xs,rfl,hl,hx⟩:=h;obtain ⟨y,hy,e⟩:=Sj (xs:=xs) (i:=a) (by omega) (by omega);obtain ⟨c,rfl,hc⟩:=hx y hy;have:Wu (.tup xs) a=c:=by unfold Wu sub;rw [e];simp
 rw [this];exact ⟨e,hc⟩
def dS (n:Nat) (x:Dv):Prop:=∃ xs,x=.tup xs/\xs.length=n/\∀ y∈xs,Row n y
theorem TJ {n:Nat} {x:Dv} {a:Nat} (h:dS n x) (ha:a < n):AA x (.int (a:Nat))=some (sub x a)/\Row n (sub x a):=by
 obtain ⟨xs,rfl,hl,hx⟩:=h;obtain ⟨y,hy,e⟩:=Sj (xs:=xs) (i:=a) (by omega) (by omega);have:sub (.tup xs) a=y:=by unfold sub;rw [e];rfl
 rw [this];exact ⟨e,hx y hy⟩
theorem Tab.one {n:Nat} {x:Dv} (h:Tab n 1 x):Row n x:=by
 rcases h with ⟨_,h⟩ | ⟨h,_⟩
 ·exact h
 ·cases h
theorem Tab.two {n:Nat} {x:Dv} (h:Tab n 2 x):dS n x:=by
 rcases h with ⟨h,_⟩ | ⟨_,h⟩
 ·cases h
 ·exact h
def Wl (n nf:Nat) (ds:List Dv) (w:Dv) (cs:List Nat) (tbs:List Dv):Prop:=w=.tup [.int (n:Nat),tI cs,.tup tbs]/\cs.length=nf/\(∀ c∈cs,c < n)/\Paired (fZ n) ds tbs
theorem Wl.w0 {n nf:Nat} {ds:List Dv} {w:Dv} {cs:List Nat} {tbs:List Dv} (h:Wl n nf ds w cs tbs):AA w (.int 0)=some (.int (n:Nat)):=by rw [h.1];rfl
theorem Wl.w1 {n nf:Nat} {ds:List Dv} {w:Dv} {cs:List Nat} {tbs:List Dv} (h:Wl n nf ds w cs tbs):AA w (.int 1)=some (tI cs):=by rw [h.1];rfl
theorem Wl.w2 {n nf:Nat} {ds:List Dv} {w:Dv} {cs:List Nat} {tbs:List Dv} (h:Wl n nf ds w cs tbs):AA w (.int 2)=some (.tup tbs):=by rw [h.1];rfl
inductive Nd where
 | inp (k:Nat) | fix (c:Dv) | act (d:Dv) (ps:List Nat)
noncomputable def Dc:Dv:=.str [105,110,112,117,116]
noncomputable def CQ:Dv:=.str [102,105,120,101,100]
noncomputable def Kl:Dv:=.str [100,111]
def Nd.dv:Nd->Dv
 | .inp k=>.tup [Dc,.int (k:Nat)]
 | .fix c=>.tup [CQ,c]
 | .act d ps=>.tup [Kl,d,tI ps]
noncomputable def Nd.parts:Nd->List Nat
 | .act _ ps=>ps
 | _=>[]
def Dl (I:Nat) (fs ds:List Dv) (i:Nat):Nd->Prop
 | .inp k=>k < I
 | .fix c=>c∈fs/\∃ l,c=.str l
 | .act d ps=>(∃ r:Int,Dv.tup [d,.int r]∈ds/\(ps.length:Int)=r/\(r=1\/r=2)/\∃ l,d=.str l)/\∀ p∈ps,p < i
def BS (I:Nat) (fs ds:List Dv) (L:List Nd):Prop:=∀ i x,L[i]?=some x->Dl I fs ds i x
theorem Dl.part {I:Nat} {fs ds:List Dv} {i:Nat} {x:Nd} (h:Dl I fs ds i x):∀ p∈x.parts,p < i:=fun p hp=>by
 cases x with
 | inp k=>cases hp
 | fix c=>cases hp
 | act d ps=>exact h.2 p hp
noncomputable def nD (L:List Nd):List Dv:=L.map Nd.dv
theorem Dh (L:List Nd):(nD L).length=L.length:=by simp [nD]
theorem Qh {L:List Nd} {i:Nat} (h:i < L.length):AA (.lst (nD L)) (.int (i:Nat))=some L[i].dv:=by
 show DV (nD L) (i:Int)=_;rw [atI_nat _ _ (by rw [Dh];exact h)];simp [nD]
theorem Qg {L:List Nd} {i:Nat} (h:i < L.length):AA (.tup (nD L)) (.int (i:Nat))=some L[i].dv:=Qh h
def Nd.kd:Nd->Dv
 | .inp _=>Dc
 | .fix _=>CQ
 | .act _ _=>Kl
theorem WU (x:Nd):AA x.dv (.int 0)=some x.kd:=by cases x<;>rfl
noncomputable def JA (p:Nat->Bool) (N:Nat):Nat:=((List.range N).filter p).length
theorem Ip {p q:Nat->Bool} (h:∀ v,q v=true->p v=true):∀ N,JA q N<=JA p N
 | 0=>Nat.le_refl _
 | N+1=>by
  have ih:=Ip h N;unfold JA at *;rw [List.range_succ,List.filter_append,List.filter_append,List.length_append,List.length_append];have:([N].filter q).length<=([N].filter p).length:=by
   cases e:q N with
   | true=>simp [List.filter,e,h N e]
   | false=>simp [List.filter,e]
  omega
theorem Rn {p q:Nat->Bool} {v:Nat} (h:∀ v,q v=true->p v=true) (h1:p v=true) (h2:q v=false):∀ {N},v < N->JA q N < JA p N
  | 0,hv=>by omega
  | N+1,hv=>by
    have le:=Ip h N;unfold JA at *;rw [List.range_succ,List.filter_append,List.filter_append,List.length_append,List.length_append]
    by_cases e:v=N
    · subst e;simp [List.filter,h1,h2];omega
    · have ih:=Rn h h1 h2 (N:=N) (by omega);unfold JA at ih;have:([N].filter q).length<=([N].filter p).length:=by
        cases e:q N with
        | true=>simp [List.filter,e,h N e]
        | false=>simp [List.filter,e]
      omega
theorem Cr:∀ {N:Nat} {l:List Nat},l.Nodup->(∀ x∈l,x < N)->l.length<=N
 | 0,[],_,_=>Nat.le_refl _
 | 0,x::_,_,h=>by have:=h x List.mem_cons_self;omega
 | N+1,l,nd,h=>by
  have nd':=nd.erase N;have:=Cr (N:=N) nd' fun x hx=>by
   have h1:=h x (List.mem_of_mem_erase hx);have:x≠N:=fun e=>by rw [e] at hx;exact (List.Nodup.mem_erase_iff nd).mp hx |>.1 rfl
   omega
  have e:l.length - 1<=(l.erase N).length:=by
   rw [List.length_erase];split<;>omega
  omega
def kI (ks:List Nat):List Av:=ks.map fun k=>Sum.inl ((k:Nat):Int)
def BC (ks:List Nat):Dv:=.dct (kI ks) (nI (List.range ks.length))
theorem Qs (ks:List Nat) (k:Nat):(kI ks).any (fun j=>decide (j=Sum.inl ((k:Nat):Int)))=decide (k∈ks):=by
 induction ks with
 | nil=>rfl
 | cons x xs ih =>
  unfold kI at ih;simp only [kI,List.map_cons,List.any_cons,ih,List.mem_cons]
  by_cases e:x=k
  ·subst e;simp
  ·have e1:¬ (Sum.inl ((x:Nat):Int):Av)=Sum.inl ((k:Nat):Int):=fun z=>e (by have:=Sum.inl.inj z;omega)
   have e2:¬ k=x:=fun z=>e z.symm
   simp [e1,e2]
theorem Gf (k:Nat):∀ (ks:List Nat) (xs:List Dv),ks.length=xs.length->(DU (.inl ((k:Nat):Int)) (kI ks) xs).isSome=decide (k∈ks)
 | [],_,_=>rfl
 | x::ks,[],h=>by cases h
 | x::ks,d::xs,h=>by
  have ih:=Gf k ks xs (by simpa using h);unfold kI at ih;simp only [kI,List.map_cons,DU,List.mem_cons]
  by_cases e:x=k
  ·subst e;simp
  ·have e1:¬ (Sum.inl ((x:Nat):Int):Av)=Sum.inl ((k:Nat):Int):=fun z=>e (by have:=Sum.inl.inj z;omega)
   have e2:¬ k=x:=fun z=>e z.symm
   rw [if_neg e1,ih];simp [e2]
theorem KF (k:Nat):∀ (ks:List Nat) (o:Nat),k∈ks->DU (.inl ((k:Nat):Int)) (kI ks) (nI ((List.range ks.length).map (o+·)))=some (.int ((o+ks.idxOf k:Nat)))
 | [],_,h=>by cases h
 | x::ks,o,h=>by
  rw [List.length_cons,List.range_succ_eq_map];simp only [kI,nI,List.map_cons,List.map_map,DU]
  by_cases e:x=k
  ·subst e;simp
  ·have e1:¬ (Sum.inl ((x:Nat):Int):Av)=Sum.inl ((k:Nat):Int):=fun z=>e (by have:=Sum.inl.inj z;omega)
   rw [if_neg e1,show List.idxOf k (x::ks)=List.idxOf k ks+1 by have q:(x == k)=false:=beq_eq_false_iff_ne.mpr e;rw [List.idxOf_cons,q];rfl];have ih:=KF k ks (o+1) ((List.mem_cons.mp h).resolve_left fun z=>e z.symm);unfold kI nI at ih;rw [List.map_map] at ih;have:((fun t=>Dv.int ((t:Nat):Int))∘(fun x=>o+x)∘Nat.succ)=((fun t=>Dv.int ((t:Nat):Int))∘(fun x=>o+1+x)):=by
    funext y;simp only [Function.comp];congr 2;omega
   rw [this,ih];congr 3;omega
theorem WJ (ks:List Nat) (k:Nat):eD (.int (k:Nat)) (BC ks)=some (decide (k∈ks)):=by
 have:=Gf k ks (nI (List.range ks.length)) (by rw [Ay];simp);show some (DU (.inl ((k:Nat):Int)) (kI ks) (nI (List.range ks.length))).isSome=_;rw [this]
theorem XO {ks:List Nat} {k:Nat} (h:k∈ks):AA (BC ks) (.int (k:Nat))=some (.int (ks.idxOf k:Nat)):=by
 have:=KF k ks 0 h;simp only [Nat.zero_add] at this;have e:(List.range ks.length).map (fun x=>x)=List.range ks.length:=List.map_id' _;rw [e] at this;simp only [BC,AA,FK,Option.bind_some,this]
theorem Pi {ks:List Nat} {k:Nat} (h:k∉ks) (hl:ks.length<=1000000):AS (BC ks) (.int (k:Nat)) (.int (ks.length:Nat))=some (BC (ks++[k])):=by
 have a:(kI ks).any (fun j=>decide (j=Sum.inl ((k:Nat):Int)))=false:=by rw [Qs];simp [h]
 have l:(kI ks).length<=1000000:=by simpa [kI] using hl
 simp only [BC,AS,FK,Option.bind_some,if_pos l,OJ,OG,a,Bool.false_eq_true,if_false];congr 2
 ·simp [kI]
 ·rw [List.length_append,List.length_singleton,List.range_succ,IT];rfl
noncomputable def RY (e:Nat×Bool):Dv:=.tup [.int (e.1:Nat),.bl e.2]
def stk (s:List (Nat×Bool)):Dv:=.lst (s.reverse.map RY)
noncomputable def NR (L:List Nd) (q:Nat):List Nat:=match L[q]? with | some x=>x.parts | none=>[]
theorem JC {γ:Type} (t:γ->Option Bool) (g:γ->Option γ) (P:Nat->γ->Prop) (E:γ->Prop) (h:∀ m c,P m c->(t c=some false/\E c)\/(t c=some true/\∃ c' m',g c=some c'/\m' < m/\P m' c')):∀ (n m:Nat) (c:γ),m < n->P m c->∃ c',Vw t g n c=some c'/\E c'
 | 0,m,c,hm,_=>by omega
 | n+1,m,c,hm,p=>by
  rcases h m c p with ⟨e,q⟩ | ⟨e,c',m',e',lt,p'⟩
  ·exact ⟨c,by simp only [Vw,e,Option.bind_some,Bool.false_eq_true,if_false],q⟩
  ·obtain ⟨c2,e2,q⟩:=JC t g P E h n m' c' (by omega) p';exact ⟨c2,by simp only [Vw,e,Option.bind_some,if_true,e',e2],q⟩
theorem TN (s:List (Nat×Bool)):An (stk s)=some (.int (s.length:Nat)):=by
 show some (Dv.int ((s.reverse.map RY).length:Nat))=_;simp
theorem MC (e:Nat×Bool) (s:List (Nat×Bool)):Of (stk (e::s)) []=some (RY e,stk s):=by
 unfold stk;rw [List.reverse_cons,List.map_append];simp only [Of,List.map_cons,List.map_nil,List.getLast?_concat,List.dropLast_concat]
theorem EJ (F:List Nd):An (.lst (nD F))=some (.int (F.length:Nat)):=by
 show some (Dv.int ((nD F).length:Nat))=_;rw [Dh]
section
variable {L F:List Nd} {ks:List Nat} {v:Nat} {b:Bool} {s:List (Nat×Bool)}
theorem UN (h:v∈ks):AW (.lst (nD L)) (.lst (nD F),BC ks,stk ((v,b)::s))=some (.lst (nD F),BC ks,stk s):=by
 unfold AW
 show Cu "list" (stk ((v,b)::s)) _=_
 unfold stk;rw [DT];have p:=MC (v,b) s;unfold stk at p;rw [p];simp only [Option.bind_some,RY];rw [Kd];simp only [WJ,decide_eq_true h,Option.bind_some,if_true]
theorem Qb (h:v∉ks) {x:Nd} (hx:L[v]?=some x):AW (.lst (nD L)) (.lst (nD F),BC ks,stk ((v,b)::s))=(Bc (.lst (nD F)) (BC ks) (stk s) (.int (v:Nat)) (.bl b) x.dv).bind fun t=>some (t.1,t.2.1,t.2.2):=by
 unfold AW
 show Cu "list" (stk ((v,b)::s)) _=_
 unfold stk;rw [DT];have p:=MC (v,b) s;unfold stk at p;rw [p];simp only [Option.bind_some,RY];rw [Kd];obtain ⟨hv,rfl⟩:=List.getElem?_eq_some_iff.mp hx;simp only [WJ,decide_eq_false h,Option.bind_some,Bool.false_eq_true,if_false,Qh hv]
theorem cR (hl:F.length<=1000) (x:Dv):Aa (.lst (nD F)) [x]=some (.non,.lst (nD F++[x])):=DA (by rw [Dh];omega)
theorem MT (h:v∉ks) {x:Nd} (hd:aE x.kd Kl=some true) (hx:L[v]?=some x) (hl:F.length=ks.length) (hk:ks.length<=1000):AW (.lst (nD L)) (.lst (nD F),BC ks,stk ((v,b)::s))=some (.lst (nD (F++[x])),BC (ks++[v]),stk s):=by
 rw [Qb h hx];have e2:aE x.kd (.str [100,111])=some true:=hd;unfold Bc;rw [WU];simp only [Option.bind_some,e2,if_true,EJ,hl,Pi h (by omega),DT,cR (F:=F) (by omega)];simp [nD]
theorem bg (h:v∉ks) {d:Dv} {ps:List Nat} (hx:L[v]?=some (.act d ps)) (hp:∀ p∈ps,p∈ks) (hl:F.length=ks.length) (hk:ks.length<=1000) (hps:ps.length<=1000):AW (.lst (nD L)) (.lst (nD F),BC ks,stk ((v,true)::s))=some (.lst (nD (F++[.act d (ps.map fun p=>ks.idxOf p)])),BC (ks++[v]),stk s):=by
 rw [Qb h hx];have e0:AA (Nd.act d ps).dv (.int 0)=some Kl:=rfl;have e1:AA (Nd.act d ps).dv (.int 1)=some d:=rfl;have e2:AA (Nd.act d ps).dv (.int 2)=some (tI ps):=rfl;have ne:aE Kl (.str [100,111])=some false:=rfl;have it:items (tI ps)=some (nI ps):=rfl;have m:Az (Bz (BC (ks++[v]))) (nI ps)=some (nI (ps.map fun p=>ks.idxOf p)):=by
  have:∀ (qs:List Nat),(∀ p∈qs,p∈ks)->Az (Bz (BC (ks++[v]))) (nI qs)=some (nI (qs.map fun p=>ks.idxOf p)):=fun qs hq=>by
   induction qs with
   | nil=>rfl
   | cons p qs ih =>
    have hp':=hq p List.mem_cons_self;have i1:(ks++[v]).idxOf p=ks.idxOf p:=by rw [List.idxOf_append,if_pos hp']
    have ih:=ih fun q z=>hq q (List.mem_cons_of_mem _ z)
    simp only [nI] at ih;simp only [nI,List.map_cons,Az,Bz,XO (List.mem_append_left [v] hp'),i1,Option.bind_some,ih]
  exact this ps hp
 unfold Bc;rw [e0];simp only [Option.bind_some,ne,Bool.false_eq_true,if_false];unfold Ck;simp only [TF,Option.bind_some,if_true,EJ,hl,Pi h (by omega),DT,e0,e1,e2,it];rw [Aq (by rw [Ay];omega),m];simp only [Option.bind_some,AZ,cR (F:=F) (by omega)];simp [nD,Nd.dv,tI]
theorem bf (h:v∉ks) {d:Dv} {ps:List Nat} (hx:L[v]?=some (.act d ps)) (hl:s.length<=1000) (hps:ps.length<=1000):AW (.lst (nD L)) (.lst (nD F),BC ks,stk ((v,false)::s))=some (.lst (nD F),BC ks,stk (ps.map (fun p=>(p,false))++(v,true)::s)):=by
 rw [Qb h hx];have e0:AA (Nd.act d ps).dv (.int 0)=some Kl:=rfl;have e2:AA (Nd.act d ps).dv (.int 2)=some (tI ps):=rfl;have ne:aE Kl (.str [100,111])=some false:=rfl;have ng:DW (.int 1)=some (.int (-1)):=rfl;have rv:KW (tI ps) (.int (-1))=some (.tup (nI ps).reverse):=rfl;have it:items (.tup (nI ps).reverse)=some (nI ps).reverse:=rfl;have m:Az By (nI ps).reverse=some ((ps.reverse.map fun p=>(p,false)).map RY):=by
  have:∀ (qs:List Nat),Az By (nI qs)=some ((qs.map fun p=>(p,false)).map RY):=fun qs=>by
   induction qs with
   | nil=>rfl
   | cons p qs ih=>simp only [nI] at ih;simp only [nI,List.map_cons,Az,By,Option.bind_some,ih];rfl
  rw [show (nI ps).reverse=nI ps.reverse by simp [nI]];exact this ps.reverse
 unfold Bc;rw [e0];simp only [Option.bind_some,ne,Bool.false_eq_true,if_false];unfold Ck;simp only [TF,Option.bind_some,Bool.false_eq_true,if_false,stk,DT,DA (show (s.reverse.map RY).length<=1000000 by simp;omega),e2,ng,rv,it];rw [Aq (by simp [Ay];omega),m];simp only [Option.bind_some,cS (show (s.reverse.map RY++[Dv.tup [.int (v:Nat),.bl true]]).length+((ps.reverse.map fun p=>(p,false)).map RY).length<=1000000 by simp;omega)];simp [RY]
end
def Sn (L:List Nd) (top:Nat):List (Nat×Bool)->Prop
 | []=>True
 | e::r=>((r=[]/\e.1=top)\/∃ q,(q,true)∈r/\e.1∈NR L q)/\(∀ f∈r,f.2=true->e.1 < f.1)/\Sn L top r
def AB (L:List Nd) (ks:List Nat):List Nat->List (Nat×Bool)->Prop
 | _,[]=>True
 | a,e::r=>(e.2=true->∀ x∈NR L e.1,x∈ks\/x∈a)/\AB L ks (e.1::a) r
theorem AB.mono {L:List Nd} {ks ks':List Nat} (hk:∀ x∈ks,x∈ks'):∀ {s:List (Nat×Bool)} {a a':List Nat},(∀ x∈a,x∈ks'\/x∈a')->AB L ks a s->AB L ks' a' s
  | [],_,_,_,_=>trivial
  | e::r,a,a',ha,h=>⟨fun z x hx=>(h.1 z x hx).elim (fun q=>.inl (hk x q)) fun q=>ha x q,h.2.mono hk fun x hx=>by
      rcases List.mem_cons.mp hx with rfl | hx
      · exact .inr List.mem_cons_self
      · exact (ha x hx).elim .inl fun q=>.inr (List.mem_cons_of_mem _ q)⟩
theorem AB.app {L:List Nd} {ks:List Nat} {t:List (Nat×Bool)}:∀ {ps a:List Nat},AB L ks (ps.reverse++a) t->AB L ks a (ps.map (fun p=>(p,false))++t)
 | [],a,h=>h
 | p::ps,a,h=>⟨(fun z=>by cases z),AB.app (ps:=ps) (a:=p::a) (by simpa using h)⟩
section
variable {I:Nat} {fs ds:List Dv} {L:List Nd} {top:Nat}
theorem LA (hL:BS I fs ds L) {q x:Nat} (h:x∈NR L q):x < q:=by
 unfold NR at h;split at h
 ·rename_i y hy;exact (hL q y hy).part x h
 ·cases h
theorem FY (hL:BS I fs ds L):∀ {s:List (Nat×Bool)},Sn L top s->∀ e∈s,e.1<=top
 | [],_,e,h=>by cases h
 | f::r,g,e,h=>by
  have ih:=FY hL g.2.2;rcases List.mem_cons.mp h with rfl | h
  ·rcases g.1 with ⟨_,z⟩ | ⟨q,hq,z⟩
   ·omega
   ·have:=ih _ hq;have:=LA hL z;simp at *;omega
  ·exact ih e h
theorem He (hL:BS I fs ds L) {v:Nat} {r:List (Nat×Bool)} (g:Sn L top ((v,true)::r)):∀ {xs:List Nat},(∀ x∈xs,x∈NR L v)->Sn L top (xs.map (fun p=>(p,false))++(v,true)::r)
 | [],_=>g
 | x::xs,h=>by
  refine ⟨.inr ⟨v,List.mem_append_right _ List.mem_cons_self,h x List.mem_cons_self⟩,fun f hf ht=>?_,He hL g fun y hy=>h y (List.mem_cons_of_mem _ hy)⟩;have xv:=LA hL (h x List.mem_cons_self);rcases List.mem_append.mp hf with hf | hf
  ·obtain ⟨y,_,rfl⟩:=List.mem_map.mp hf;cases ht
  ·rcases List.mem_cons.mp hf with rfl | hf
   ·exact xv
   ·have:=g.2.1 f hf ht;show x < f.1;simp at this;omega
structure OI (I:Nat) (fs ds:List Dv) (L:List Nd) (top:Nat) (F:List Nd) (ks:List Nat) (s:List (Nat×Bool)):Prop where
 lf:F.length=ks.length
 nd:ks.Nodup
 lt:∀ k∈ks,k < L.length
 ok:BS I fs ds F
 g:Sn L top s
 pend:∀ q,(q,true)∈s->q∉ks
 ab:AB L ks [] s
 cov:∀ i k,ks[i]?=some k->(∃ (j:Nat) (y:Nd),F[j]?=some y/\i∈y.parts)\/(∃ q,(q,true)∈s/\k∈NR L q)\/k=top
 fin:(top∉ks/\s≠[])\/(s=[]/\∃ k0,ks=k0++[top]/\top∉k0)
variable {F:List Nd} {ks:List Nat} {v:Nat} {b:Bool} {s:List (Nat×Bool)}
theorem OI.top_out (h:OI I fs ds L top F ks ((v,b)::s)):top∉ks:=h.fin.elim (fun z=>z.1) fun z=>by cases z.1
theorem OI.one (h:OI I fs ds L top F ks ((v,b)::s)) (hs:s=[]):v=top:=by
 rcases h.g.1 with ⟨_,z⟩ | ⟨q,hq,_⟩
 ·exact z
 ·rw [hs] at hq;cases hq
theorem OI.skip (h:OI I fs ds L top F ks ((v,b)::s)) (hv:v∈ks):OI I fs ds L top F ks s:=by
 refine ⟨h.lf,h.nd,h.lt,h.ok,h.g.2.2,fun q hq=>h.pend q (List.mem_cons_of_mem _ hq),h.ab.2.mono (fun _ z=>z) fun x hx=>?_,fun i k hk=>?_,.inl ⟨h.top_out,fun z=>h.top_out (h.one z▸hv)⟩⟩
 ·rw [List.mem_singleton] at hx;rw [hx];exact .inl hv
 ·rcases h.cov i k hk with z | ⟨q,hq,z⟩ | z
  ·exact .inl z
  ·rcases List.mem_cons.mp hq with e | hq
   ·cases e;exact (h.pend v List.mem_cons_self hv).elim
   ·exact .inr (.inl ⟨q,hq,z⟩)
  ·exact .inr (.inr z)
theorem OI.emit (hL:BS I fs ds L) (ht:top < L.length) (h:OI I fs ds L top F ks ((v,b)::s)) (hv:v∉ks) {y:Nd} (hy:Dl I fs ds F.length y) (hp:b=true->∀ i k,ks[i]?=some k->k∈NR L v->i∈y.parts):OI I fs ds L top (F++[y]) (ks++[v]) s:=by
 have vt:v<=top:=FY hL h.g (v,b) List.mem_cons_self;refine ⟨by simp [h.lf],?_,fun k hk=>?_,fun i x hx=>?_,h.g.2.2,fun q hq hm=>?_,h.ab.2.mono (fun x z=>List.mem_append_left _ z) fun x hx=>?_,fun i k hk=>?_,?_⟩
 ·exact List.nodup_append.mpr ⟨h.nd,by simp,fun a ha b' hb=>by rw [List.mem_singleton] at hb;subst hb;exact fun e=>hv (e▸ha)⟩
 ·rcases List.mem_append.mp hk with hk | hk
  ·exact h.lt k hk
  ·rw [List.mem_singleton] at hk;subst hk;omega
 ·rcases Nat.lt_or_ge i F.length with w | w
  ·rw [List.getElem?_append_left w] at hx;exact h.ok i x hx
  ·have:i=F.length:=by have:=(List.getElem?_eq_some_iff.mp hx).1;simp at this;omega
   subst this;rw [List.getElem?_append_right (Nat.le_refl _),Nat.sub_self] at hx;cases hx;exact hy
 ·rcases List.mem_append.mp hm with hm | hm
  ·exact h.pend q (List.mem_cons_of_mem _ hq) hm
  ·rw [List.mem_singleton] at hm;subst hm;have:=h.g.2.1 (q,true) hq rfl;simp at this
 ·rw [List.mem_singleton] at hx;rw [hx];exact .inl (List.mem_append_right _ List.mem_cons_self)
 ·rcases Nat.lt_or_ge i ks.length with w | w
  ·rw [List.getElem?_append_left w] at hk;rcases h.cov i k hk with ⟨j,x,hx,z⟩ | ⟨q,hq,z⟩ | z
   ·exact .inl ⟨j,x,by rw [List.getElem?_append_left (List.getElem?_eq_some_iff.mp hx).1];exact hx,z⟩
   ·rcases List.mem_cons.mp hq with e | hq
    ·cases e;exact .inl ⟨F.length,y,by rw [List.getElem?_append_right (Nat.le_refl _),Nat.sub_self];rfl,hp rfl i k hk z⟩
    ·exact .inr (.inl ⟨q,hq,z⟩)
   ·exact .inr (.inr z)
  ·have:i=ks.length:=by have:=(List.getElem?_eq_some_iff.mp hk).1;simp at this;omega
   subst this;rw [List.getElem?_append_right (Nat.le_refl _),Nat.sub_self] at hk;cases hk;rcases h.g.1 with ⟨_,z⟩ | z
   ·exact .inr (.inr z)
   ·exact .inr (.inl z)
 ·by_cases e:v=top
  ·refine .inr ⟨?_,ks,by rw [e],h.top_out⟩;rcases h.g.1 with ⟨z,_⟩ | ⟨q,hq,z⟩
   ·exact z
   ·have h1:=LA hL z;have h2:=FY hL h.g (q,true) (List.mem_cons_of_mem _ hq);simp at h1 h2;omega
  ·refine .inl ⟨fun z=>?_,fun z=>e (h.one z)⟩;rcases List.mem_append.mp z with z | z
   ·exact h.top_out z
   ·rw [List.mem_singleton] at z;exact e z.symm
theorem OI.expand (hL:BS I fs ds L) (h:OI I fs ds L top F ks ((v,false)::s)) (hv:v∉ks) {d:Dv} {ps:List Nat} (hx:L[v]?=some (.act d ps)):OI I fs ds L top F ks (ps.map (fun p=>(p,false))++(v,true)::s):=by
 have pv:NR L v=ps:=by unfold NR;rw [hx];rfl
 refine ⟨h.lf,h.nd,h.lt,h.ok,He hL (v:=v) (r:=s) ⟨h.g.1,h.g.2.1,h.g.2.2⟩ fun x hx=>by rw [pv];exact hx,fun q hq=>?_,AB.app ⟨fun _ x hx=>.inr (by rw [pv] at hx;simpa using hx),h.ab.2.mono (fun _ z=>z) fun x hx=>?_⟩,fun i k hk=>?_,.inl ⟨h.top_out,by simp⟩⟩
 ·rcases List.mem_append.mp hq with hq | hq
  ·obtain ⟨y,_,e⟩:=List.mem_map.mp hq;cases e
  ·rcases List.mem_cons.mp hq with e | hq
   ·cases e;exact hv
   ·exact h.pend q (List.mem_cons_of_mem _ hq)
 ·rw [List.mem_singleton] at hx;rw [hx];exact .inr List.mem_cons_self
 ·rcases h.cov i k hk with z | ⟨q,hq,z⟩ | z
  ·exact .inl z
  ·rcases List.mem_cons.mp hq with e | hq
   ·cases e
   ·exact .inr (.inl ⟨q,List.mem_append_right _ (List.mem_cons_of_mem _ hq),z⟩)
  ·exact .inr (.inr z)
def mu (N:Nat) (ks:List Nat) (s:List (Nat×Bool)):Nat:=3 * JA (fun u=>decide (u∉ks) && decide ((u,true)∉s)) N+s.length
theorem MU (hv:v∈ks) (hp:∀ q,(q,true)∈(v,b)::s->q∉ks) (N:Nat):mu N ks s < mu N ks ((v,b)::s):=by
 have:JA (fun u=>decide (u∉ks) && decide ((u,true)∉s)) N<=JA (fun u=>decide (u∉ks) && decide ((u,true)∉(v,b)::s)) N:=Ip (fun u hu=>by
  simp only [Bool.and_eq_true,decide_eq_true_eq] at hu ⊢;refine ⟨hu.1,fun z=>?_⟩;rcases List.mem_cons.mp z with e | z
  ·cases e;exact hu.1 hv
  ·exact hu.2 z) N
 unfold mu;rw [List.length_cons];omega
theorem DO (N:Nat):mu N (ks++[v]) s < mu N ks ((v,b)::s):=by
 have:JA (fun u=>decide (u∉ks++[v]) && decide ((u,true)∉s)) N<=JA (fun u=>decide (u∉ks) && decide ((u,true)∉(v,b)::s)) N:=Ip (fun u hu=>by
  simp only [Bool.and_eq_true,decide_eq_true_eq,List.mem_append,List.mem_singleton,not_or] at hu ⊢;refine ⟨hu.1.1,fun z=>?_⟩;rcases List.mem_cons.mp z with e | z
  ·cases e;exact hu.1.2 rfl
  ·exact hu.2 z) N
 unfold mu;rw [List.length_cons];omega
theorem WV {ps:List Nat} {N:Nat} (hv:v∉ks) (hN:v < N) (hs:(v,true)∉s) (hp:ps.length<=2):mu N ks (ps.map (fun p=>(p,false))++(v,true)::s) < mu N ks ((v,false)::s):=by
  have:JA (fun u=>decide (u∉ks) && decide ((u,true)∉ps.map (fun p=>(p,false))++(v,true)::s)) N < JA (fun u=>decide (u∉ks) && decide ((u,true)∉(v,false)::s)) N:=Rn (v:=v) (fun u hu=>by
      simp only [Bool.and_eq_true,decide_eq_true_eq,List.mem_append,List.mem_cons,not_or] at hu ⊢;exact ⟨hu.1,(fun e=>by cases e),hu.2.2.2⟩) (by
      simp only [Bool.and_eq_true,decide_eq_true_eq,List.mem_cons,not_or];exact ⟨hv,(fun e=>by cases e),hs⟩) (by simp) hN
  unfold mu;rw [List.length_append,List.length_cons,List.length_cons,List.length_map];omega
theorem Wo (p:Nat->Bool) (N:Nat):JA p N<=N:=by
 have:=List.length_filter_le p (List.range N);unfold JA;simpa using this
def Zx (F:List Nd):Prop:=∀ i,i+1 < F.length->∃ (j:Nat) (y:Nd),F[j]?=some y/\i∈y.parts
theorem IR (hL:BS I fs ds L) (ht:top < L.length) (hN:L.length<=100):∃ F,CM (.lst (nD L)) (.int (top:Nat))=some (.tup [.tup (nD F),.int ((F.length - 1:Nat))])/\BS I fs ds F/\Zx F/\0 < F.length/\F.length<=L.length:=by
  obtain ⟨c,e,F,ks,rfl,o⟩:=JC Bb (AW (.lst (nD L))) (fun m c=>∃ F ks s,c=(.lst (nD F),BC ks,stk s)/\OI I fs ds L top F ks s/\mu L.length ks s=m/\m<=1000) (fun c=>∃ F ks,c=(.lst (nD F),BC ks,stk [])/\OI I fs ds L top F ks []) (fun m c ⟨F,ks,s,e,o,hm,hs⟩=>by
    subst e;have t:Bb (.lst (nD F),BC ks,stk s)=some (decide (0 < s.length)):=by
      unfold Bb;simp only [TN,Option.bind_some,Bv];congr 1;exact decide_eq_decide.mpr (by omega)
    cases s with
    | nil=>exact .inl ⟨by rw [t];rfl,F,ks,rfl,o⟩
    | cons e s =>
      obtain ⟨v,b⟩:=e;refine .inr ⟨by rw [t];simp,?_⟩;have vt:v<=top:=FY hL o.g (v,b) List.mem_cons_self;have vL:v < L.length:=by omega
      have hx:=List.getElem?_eq_getElem vL;have kl:ks.length<=L.length:=Cr o.nd o.lt;have lfl:=o.lf;have hs':s.length<=1000:=by unfold mu at hm;rw [List.length_cons] at hm;omega
      have dn:∀ {m'},m' < m->m'<=1000:=fun h=>by omega
      by_cases hv:v∈ks
      · exact ⟨_,_,UN hv,(by rw [<- hm];exact MU hv o.pend L.length),F,ks,s,rfl,o.skip hv,rfl,dn (by rw [<- hm];exact MU hv o.pend L.length)⟩
      · have okv:=hL v _ hx;cases q:L[v] with
        | inp k =>
          rw [q] at hx okv;exact ⟨_,_,MT hv rfl hx o.lf (by omega),by rw [<- hm];exact DO L.length,_,_,s,rfl,o.emit hL ht hv okv (fun _ i k' _ hk=>by unfold NR at hk;rw [hx] at hk;cases hk),rfl,dn (by rw [<- hm];exact DO L.length)⟩
        | fix c =>
          rw [q] at hx okv;exact ⟨_,_,MT hv rfl hx o.lf (by omega),by rw [<- hm];exact DO L.length,_,_,s,rfl,o.emit hL ht hv okv (fun _ i k' _ hk=>by unfold NR at hk;rw [hx] at hk;cases hk),rfl,dn (by rw [<- hm];exact DO L.length)⟩
        | act d ps =>
          rw [q] at hx okv;have pv:NR L v=ps:=by unfold NR;rw [hx];rfl
          have pl:ps.length<=2:=by obtain ⟨⟨r,_,h1,h2,_⟩,_⟩:=okv;omega
          cases b with
          | true =>
            have hp:∀ p∈ps,p∈ks:=fun p hp=>(o.ab.1 rfl p (by rw [pv];exact hp)).resolve_right (by simp)
            refine ⟨_,_,bg hv hx hp o.lf (by omega) (by omega),by rw [<- hm];exact DO L.length,_,_,s,rfl,o.emit hL ht hv ?_ (fun _ i k hk hm=>?_),rfl,dn (by rw [<- hm];exact DO L.length)⟩
            · obtain ⟨⟨r,h1,h2,h3⟩,_⟩:=okv;refine ⟨⟨r,h1,by simpa using h2,h3⟩,fun p hp'=>?_⟩;obtain ⟨x,hx',rfl⟩:=List.mem_map.mp hp';rw [o.lf];exact List.idxOf_lt_length_iff.mpr (hp x hx')
            · rw [pv] at hm;refine List.mem_map.mpr ⟨k,hm,?_⟩;obtain ⟨hi,rfl⟩:=List.getElem?_eq_some_iff.mp hk;have h1:ks.idxOf ks[i] < ks.length:=List.idxOf_lt_length_iff.mpr (List.getElem_mem hi);have:=List.getElem_idxOf h1;exact (List.getElem_inj o.nd).mp this
          | false =>
            have ns:(v,true)∉s:=fun z=>by have:=o.g.2.1 (v,true) z rfl;simp at this
            exact ⟨_,_,bf hv hx hs' (by omega),(by rw [<- hm];exact WV hv vL ns pl),_,_,_,rfl,o.expand hL hv hx,rfl,dn (by rw [<- hm];exact WV hv vL ns pl)⟩) 1000000 (mu L.length [] [(top,false)]) _ (by unfold mu;have:=Wo (fun u=>decide (u∉([]:List Nat)) && decide ((u,true)∉[(top,false)])) L.length;simp only [List.length_singleton];omega) ⟨[],[],[(top,false)],rfl,⟨rfl,by simp,(fun _ z=>by cases z),(fun i x h=>by simp at h),⟨.inl ⟨rfl,rfl⟩,(fun _ z=>by cases z),trivial⟩,(fun q hq=>by simp at hq),⟨(fun z=>by cases z),trivial⟩,(fun i k h=>by simp at h),.inl ⟨by simp,by simp⟩⟩,rfl,by unfold mu;have:=Wo (fun u=>decide (u∉([]:List Nat)) && decide ((u,true)∉[(top,false)])) L.length;simp only [List.length_singleton];omega⟩
  have kl:ks.length<=L.length:=Cr o.nd o.lt;have lf:=o.lf;obtain ⟨k0,rfl,nt⟩:∃ k0,ks=k0++[top]/\top∉k0:=o.fin.elim (fun z=>(z.2 rfl).elim) fun z=>z.2
  have l0:0 < F.length:=by rw [lf];simp
  refine ⟨F,?_,o.ok,fun i hi=>?_,l0,by omega⟩
  · unfold CM;have e':Vw Bb (AW (.lst (nD L))) 1000000 (.lst [],.dct [] [],.lst [.tup [.int (top:Nat),.bl false]])=some (.lst (nD F),BC (k0++[top]),stk []):=e;rw [e'];simp only [Option.bind_some,AZ,EJ];have:Gn (.int (F.length:Nat)) (.int 1)=some (.int ((F.length - 1:Nat))):=by
      show some (Dv.int ((F.length:Int) - 1))=_;congr 2;omega
    rw [this];rfl
  · have hi':i < k0.length:=by rw [lf,List.length_append,List.length_singleton] at hi;omega
    rcases o.cov i k0[i] (by rw [List.getElem?_append_left hi'];exact List.getElem?_eq_getElem hi') with z | ⟨q,hq,_⟩ | z
    · exact z
    · cases hq
    · exact (nt (z▸List.getElem_mem hi')).elim
end
def Lx (I:Nat) (fs ds:List Dv) (x:Dv):Prop:=∃ F,x=.tup [.tup (nD F),.int ((F.length - 1:Nat))]/\BS I fs ds F/\Zx F/\0 < F.length/\F.length<=100
theorem Hf {γ:Type} {P:Nat->γ->Prop} (g:Dv->γ->Option γ) (n:Nat) (c:γ) (h0:P 0 c) (h:∀ i < n,∀ c,P i c->∃ c',g (.int (i:Nat)) c=some c'/\P (i+1) c'):∃ c',Ap g ((List.range n).map fun k=>.int (k:Nat)) c=some c'/\P n c':=by
 obtain ⟨c',e,p⟩:=Gb g P ((List.range n).map fun k=>.int (k:Nat)) 0 c h0 fun i x hx c hc=>by
  rw [List.getElem?_map] at hx;have hi:i < n:=by
   rcases Nat.lt_or_ge i n with h | h
   ·exact h
   ·rw [List.getElem?_eq_none (by simp;omega)] at hx;cases hx
  rw [List.getElem?_eq_getElem (by simp;omega)] at hx;simp only [Option.map_some,Option.some.injEq,List.getElem_range] at hx;subst hx;rw [Nat.zero_add] at hc ⊢;exact h i hi c hc
 exact ⟨c',e,by simpa using p⟩
theorem aU (ts:List Nat):(tI ts).cmp=true/\(tI ts).dep<=1:=by
 have a:∀ ts:List Nat,Am (nI ts)=true/\BB (nI ts)=0:=fun ts=>by
  induction ts with
  | nil=>exact ⟨rfl,rfl⟩
  | cons t ts ih =>
   simp only [nI] at ih;simp only [nI,List.map_cons,Am,BB,Dv.cmp,Dv.dep,ih.1,ih.2,Bool.and_self];exact ⟨trivial,rfl⟩
 simp only [tI,Dv.cmp,Dv.dep,a ts];exact ⟨trivial,Nat.le_refl _⟩
section
variable {I:Nat} {fs ds:List Dv}
theorem WT {i:Nat} {x:Nd} (h:Dl I fs ds i x):x.dv.cmp=true/\x.dv.dep<=2:=by
 cases x with
 | inp k=>exact ⟨rfl,by simp [Nd.dv,Dc,Dv.dep,BB]⟩
 | fix c=>obtain ⟨_,l,rfl⟩:=h;exact ⟨rfl,by simp [Nd.dv,CQ,Dv.dep,BB]⟩
 | act d ps =>
  obtain ⟨⟨r,_,_,_,l,rfl⟩,_⟩:=h;obtain ⟨h1,h2⟩:=aU ps;simp only [Nd.dv,Kl,Dv.cmp,Am,Dv.dep,BB,h1,Bool.and_self];exact ⟨trivial,by omega⟩
theorem WS:∀ {L:List Nd},(∀ x∈L,∃ i,Dl I fs ds i x)->Am (nD L)=true/\BB (nD L)<=2
 | [],_=>⟨rfl,by decide⟩
 | x::L,h=>by
  obtain ⟨h1,h2⟩:=WS (L:=L) fun y hy=>h y (List.mem_cons_of_mem _ hy)
  obtain ⟨i,hi⟩:=h x List.mem_cons_self;obtain ⟨h3,h4⟩:=WT hi;simp only [nD] at h1 h2;simp only [nD,List.map_cons,Am,BB,h1,h3,Bool.and_self];exact ⟨trivial,by omega⟩
theorem Qf {L:List Nd} {i:Nat} {x:Nd} (hx:Dl I fs ds i x) (hL:BS I fs ds L):∃ b,Gj x.dv (.lst (nD L))=some b/\(L=[]->b=true):=by
 obtain ⟨h1,h2⟩:=WS (L:=L) fun y hy=>by obtain ⟨j,hj⟩:=List.getElem?_of_mem hy;exact ⟨j,hL j y hj⟩
 have h3:=(WT hx).1;refine ⟨!IV x.dv (nD L),?_,fun e=>by rw [e];rfl⟩;have c:(x.dv.cmp && Am (nD L) && decide (BB (nD L)<=150))=true:=by rw [h1,h3,Bool.and_self,Bool.true_and];exact decide_eq_true (by omega)
 have v:dZ (.lst (nD L))=some (nD L):=rfl;cases x<;>simp only [Nd.dv] at c ⊢<;>simp only [Ir,v,c,if_true]
theorem Qp (L:List Nd):An (.lst (nD L))=some (.int (L.length:Nat)):=EJ L
theorem Rm {a:Dv} {r:Int} {x:Dv} (h:x∈ds) (hd:∀ x∈ds,FG 5 x):∃ a r,x=.tup [a,.int r]/\(∃ l,a=.str l)/\(r=1\/r=2)/\Dv.tup [a,.int r]∈ds:=by
 obtain ⟨a,r,rfl,⟨l,rfl,_⟩,hr⟩:=hd x h;exact ⟨_,r,rfl,⟨l,rfl⟩,hr,h⟩
theorem BS.snoc {L:List Nd} {x:Nd} (h:BS I fs ds L) (hx:Dl I fs ds L.length x):BS I fs ds (L++[x]):=fun i y hy=>by
 rcases Nat.lt_or_ge i L.length with w | w
 ·rw [List.getElem?_append_left w] at hy;exact h i y hy
 ·have:i=L.length:=by have:=(List.getElem?_eq_some_iff.mp hy).1;simp at this;omega
  subst this;rw [List.getElem?_append_right (Nat.le_refl _),Nat.sub_self] at hy;cases hy;exact hx
variable (hfs:∀ x∈fs,Tx 10 x) (hds:∀ x∈ds,FG 5 x) (hdl:ds.length<=1000)
include hds hdl
theorem Hk {f:Dv} (hf:Fd f) (h0:0 < ds.length):∃ (r:Nat) (f' a:Dv) (k:Int),AK f (.int (ds.length:Nat))=some (.int r,f')/\Fd f'/\AA (.tup ds) (.int r)=some (.tup [a,.int k])/\(∃ l,a=.str l)/\(k=1\/k=2)/\Dv.tup [a,.int k]∈ds:=by
 obtain ⟨r,f',e,b,hf'⟩:=AF hf (n:=((ds.length:Nat):Int)) (by omega) (by omega);obtain ⟨x,hx,ex⟩:=Sj (xs:=ds) (i:=r) (by omega) b;obtain ⟨a,k,rfl,h1,h2,h3⟩:=Rm (a:=.non) (r:=0) hx hds;exact ⟨r,f',a,k,e,hf',ex,h1,h2,h3⟩
theorem cM {f:Dv} (hf:Fd f) {L:List Nd} (hL:BS I fs ds L) (hl:L.length<=100) {y:Nd} (hy:Dl I fs ds L.length y):∃ x f',Fy (.tup [.tup fs,.tup ds]) (.lst (nD L)) f y.dv=some (f',x.dv)/\Dl I fs ds L.length x/\Fd f':=by
 have i1:AA (.tup [.tup fs,.tup ds]) (.int 1)=some (.tup ds):=rfl;have l1:An (.tup ds)=some (.int (ds.length:Nat)):=rfl;have t:∃ b f',Fu (.tup [.tup fs,.tup ds]) (.lst (nD L)) f=some (b,f')/\Fd f'/\(b=true->0 < L.length/\0 < ds.length):=by
  unfold Fu;simp only [Qp,Option.bind_some,Bv]
  by_cases h0:(0:Int) < (L.length:Nat)
  ·simp only [h0,decide_true,if_true];unfold JI;simp only [i1,l1,Option.bind_some,Bv]
   by_cases h1:(0:Int) < (ds.length:Nat)
   ·obtain ⟨r,f',e,b,hf'⟩:=AF hf (n:=4) (by decide) (by decide);simp only [h1,decide_true,if_true,e,Option.bind_some,Bv];exact ⟨_,f',rfl,hf',fun _=>by omega⟩
   ·simp only [h1,decide_false,Bool.false_eq_true,if_false,Option.bind_some];exact ⟨_,f,rfl,hf,fun z=>by cases z⟩
  ·simp only [h0,decide_false,Bool.false_eq_true,if_false];exact ⟨_,f,rfl,hf,fun z=>by cases z⟩
 obtain ⟨b,f1,e1,hf1,hb⟩:=t;unfold Fy;rw [e1];cases b with
 | false=>exact ⟨y,f1,rfl,hy,hf1⟩
 | true =>
  obtain ⟨L0,d0⟩:=hb rfl;obtain ⟨r,f2,a,k,e2,hf2,ex,⟨l,rfl⟩,hk,hm⟩:=Hk hds hdl hf1 d0;have er:Bd [.int k]=some ((List.range k.toNat).map fun j=>.int (j:Nat)):=DJ (by omega) (by omega);obtain ⟨qs,f3,e3,l3,h3,hf3⟩:=Bn (GG (.lst (nD L))) Fd (fun d=>∃ p:Nat,d=.int p/\p < L.length) ((List.range k.toNat).map fun j=>.int (j:Nat)) f2 hf2 fun x hx c hc=>by
   obtain ⟨r1,g1,q1,b1,hg1⟩:=AF hc (n:=((L.length:Nat):Int)) (by omega) (by omega);obtain ⟨r2,g2,q2,b2,hg2⟩:=AF hg1 (n:=2) (by decide) (by decide);have s1:Gn (.int (L.length:Nat)) (.int 1)=some (.int ((L.length - 1:Nat))):=by
    show some (Dv.int ((L.length:Int) - 1))=_;congr 2;omega
   obtain ⟨z,hz,ez⟩:=Mw (xs:=[Dv.int ((L.length - 1:Nat)),.int (r1:Nat)]) (i:=r2) (by omega) (by simpa using b2);refine ⟨z,g2,by unfold GG;simp only [Qp,Option.bind_some,s1,q1,q2,ez],?_,hg2⟩;simp only [List.mem_cons,List.not_mem_nil,or_false] at hz;rcases hz with rfl | rfl
   ·exact ⟨_,rfl,by omega⟩
   ·exact ⟨_,rfl,by omega⟩
  obtain ⟨ps,rfl,hp⟩:=IB (n:=L.length) (xs:=qs) h3;rw [Ay] at l3;refine ⟨.act (.str l) ps,f3,?_,⟨⟨k,hm,by rw [l3];simp;omega,hk,l,rfl⟩,hp⟩,hf3⟩;simp only [Option.bind_some,if_true,i1,l1,e2,ex];rw [Kd];simp only [er,Option.bind_some];rw [Aq (by simp;omega),e3];rfl
include hfs
theorem Ny {f:Dv} (hf:Fd f) (hfl:fs.length<=100) (hI:I<=100) (hI0:fs.length=0->0 < I) {many:Nat} (hm0:0 < many) (hm:many<=50):∃ x f',Er f (.tup [.tup fs,.tup ds]) (.int (I:Nat)) (.int (many:Nat))=some (x,f')/\Lx I fs ds x/\Fd f':=by
 have i0:AA (.tup [.tup fs,.tup ds]) (.int 0)=some (.tup fs):=rfl;have l0:An (.tup fs)=some (.int (fs.length:Nat)):=rfl;have it:items (.tup fs)=some fs:=rfl;have mx:∃ d3,(Do (.int (fs.length:Nat)) (.int 0)).bind (fun b2=>EU (.bl b2))=some d3/\Cc (.int (I:Nat)) d3=some (.int (I:Nat)):=by
  rw [Bl];simp only [Option.bind_some,EU];refine ⟨_,rfl,?_⟩;simp only [Cc]
  by_cases h:(fs.length:Int)=0
  ·have:=hI0 (by omega);simp only [h,decide_true,if_true];rw [if_neg (by omega)]
  ·simp only [h,decide_false,Bool.false_eq_true,if_false];rw [if_neg (by omega)]
 obtain ⟨d3,m1,m2⟩:=mx;obtain ⟨b2,q1,q2⟩:=Option.bind_eq_some_iff.mp m1;have rg:=NL I (by omega);have y7:Az Du ((List.range I).map fun k=>.int (k:Nat))=some (nD ((List.range I).map Nd.inp)):=by
  have:∀ l:List Nat,Az Du (l.map fun k=>.int (k:Nat))=some (nD (l.map Nd.inp)):=fun l=>by
   induction l with
   | nil=>rfl
   | cons a l ih=>simp only [nD] at ih;simp only [nD,List.map_cons,Az,Du,Option.bind_some,ih];rfl
  exact this _
 have y11:Az Ds fs=some (nD (fs.map Nd.fix)):=by
  have:∀ l:List Dv,Az Ds l=some (nD (l.map Nd.fix)):=fun l=>by
   induction l with
   | nil=>rfl
   | cons a l ih=>simp only [nD] at ih;simp only [nD,List.map_cons,Az,Ds,Option.bind_some,ih];rfl
  exact this _
 let S:List Nd:=(List.range I).map Nd.inp++fs.map Nd.fix
 have hS:nD ((List.range I).map Nd.inp)++nD (fs.map Nd.fix)=nD S:=by simp [nD,S]
 have lS:S.length=I+fs.length:=by simp [S]
 have okS:∀ x∈S,∀ i,Dl I fs ds i x:=fun x hx i=>by
  rcases List.mem_append.mp hx with hx | hx
  ·obtain ⟨k,hk,rfl⟩:=List.mem_map.mp hx;exact (show k < I by simpa using hk)
  ·obtain ⟨c,hc,rfl⟩:=List.mem_map.mp hx;obtain ⟨l,rfl,_⟩:=hfs c hc;exact ⟨hc,l,rfl⟩
 have ad:Af (.lst (nD ((List.range I).map Nd.inp))) (.lst (nD (fs.map Nd.fix)))=some (.lst (nD S)):=by
  simp only [Af,if_pos (show (nD ((List.range I).map Nd.inp)).length+(nD (fs.map Nd.fix)).length<=1000000 by simp [Dh];omega),hS]
 obtain ⟨r13,f13,e13,b13,hf13⟩:=AF hf (n:=((many:Nat):Int)) (by omega) (by omega);have oa:Af (.int 1) (.int (r13:Nat))=some (.int ((1+r13:Nat))):=by rw [BG];congr 1
 have rg2:=NL (1+r13) (by omega);obtain ⟨⟨f2,l2⟩,e2,L,rfl,hL,hLl,hL0,hf2⟩:=Hf (P:=fun i c=>∃ L,c.2=.lst (nD L)/\BS I fs ds L/\L.length<=i/\(0 < i->0 < L.length)/\Fd c.1) (GI (.tup [.tup fs,.tup ds]) (.lst (nD S))) (1+r13) (f13,.lst []) ⟨[],rfl,(fun i x h=>by simp at h),by simp,(fun z=>by omega),hf13⟩ fun i hi c hc=>by
  obtain ⟨f,l⟩:=c;obtain ⟨L,rfl,hL,hLl,hL0,hf⟩:=hc;obtain ⟨r,g1,e1,b1,hg1⟩:=AF hf (n:=((S.length:Nat):Int)) (by omega) (by omega);have hr:r < S.length:=by omega
  obtain ⟨x,g2,e3,hx,hg2⟩:=cM hds hdl hg1 hL (by omega) (okS S[r] (List.getElem_mem hr) L.length);obtain ⟨b,eb,hb⟩:=Qf hx hL;unfold GI;simp only [Qp,Option.bind_some,e1,Qh hr,e3];unfold JK;rw [eb];simp only [Option.bind_some];cases b with
  | true =>
   refine ⟨(g2,.lst (nD (L++[x]))),?_,L++[x],rfl,hL.snoc hx,by simp;omega,(fun _=>by simp),hg2⟩;simp only [if_true,DT,DA (show (nD L).length<=1000000 by rw [Dh];omega),Option.bind_some];simp [nD]
  | false =>
   refine ⟨(g2,.lst (nD L)),by simp,L,rfl,hL,by omega,fun _=>?_,hg2⟩;rcases Nat.eq_zero_or_pos L.length with z | z
   ·have:=hb (List.eq_nil_of_length_eq_zero z);cases this
   ·exact z
 have hL0':=hL0 (by omega);obtain ⟨F,eF,okF,cvF,f0,fl⟩:=IR (top:=L.length - 1) hL (by omega) (by omega);refine ⟨_,f2,?_,⟨F,rfl,okF,cvF,f0,by omega⟩,hf2⟩;have s1:Gn (.int (L.length:Nat)) (.int 1)=some (.int ((L.length - 1:Nat))):=by
  show some (Dv.int ((L.length:Int) - 1))=_;congr 2;omega
 unfold Er;simp only [i0,l0,Option.bind_some,q1,q2,m2,rg];rw [Aq (by simp;omega),y7];simp only [Option.bind_some,it];rw [Aq (by omega),y11];simp only [Option.bind_some,ad,e13,oa,rg2];rw [e2];simp only [Option.bind_some,Qp,s1,eF]
theorem Lg {f:Dv} (hf:Fd f) (hfl:fs.length<=100) (hI0:fs.length=0->0 < I) {many:Nat} (hm:many<=50):∃ x f',EB f (.tup [.tup fs,.tup ds]) (.int (I:Nat)) (.int (many:Nat))=some (x,f')/\Lx I fs ds x/\Fd f':=by
  have i0:AA (.tup [.tup fs,.tup ds]) (.int 0)=some (.tup fs):=rfl;have i1:AA (.tup [.tup fs,.tup ds]) (.int 1)=some (.tup ds):=rfl;have l0:An (.tup fs)=some (.int (fs.length:Nat)):=rfl;have l1:An (.tup ds)=some (.int (ds.length:Nat)):=rfl;have first:∃ x f',Ei f (.tup [.tup fs,.tup ds]) (.int (I:Nat))=some (f',.lst (nD [x]))/\Dl I fs ds 0 x/\x.parts=[]/\Fd f':=by
    have t:∃ b f',Eb f (.tup [.tup fs,.tup ds]) (.int (I:Nat))=some (b,f')/\Fd f'/\(b=true->0 < fs.length)/\(b=false->0 < I):=by
      unfold Eb;simp only [i0,l0,Option.bind_some,Bv]
      by_cases h0:(0:Int) < (fs.length:Nat)
      · simp only [h0,decide_true,if_true];unfold HN;simp only [Bl,Option.bind_some]
        by_cases h1:((I:Nat):Int)=0
        · simp only [h1,decide_true,if_true,Option.bind_some];exact ⟨true,f,rfl,hf,(fun _=>by omega),fun z=>by cases z⟩
        · obtain ⟨r,f',e,b,hf'⟩:=AF hf (n:=2) (by decide) (by decide);simp only [h1,decide_false,Bool.false_eq_true,if_false,e,Option.bind_some,Bl];exact ⟨_,f',rfl,hf',(fun _=>by omega),fun _=>by omega⟩
      · simp only [h0,decide_false,Bool.false_eq_true,if_false];exact ⟨false,f,rfl,hf,(fun z=>by cases z),fun _=>hI0 (by omega)⟩
    obtain ⟨b,f1,e1,hf1,hb1,hb2⟩:=t;unfold Ei;rw [e1];cases b with
    | true =>
      have h0:=hb1 rfl;have ix:AA (.tup fs) (.int (-1))=some fs[fs.length - 1]:=by
        simp only [AA,DV,Jo];rw [if_neg (by omega),if_pos (by omega)];simp only [Option.bind_some];rw [show (-1+(fs.length:Int)).toNat=fs.length - 1 by omega];exact List.getElem?_eq_getElem (by omega)
      have ng:DW (.int 1)=some (.int (-1)):=rfl;have hm:=List.getElem_mem (l:=fs) (n:=fs.length - 1) (by omega);obtain ⟨l,el,_⟩:=hfs _ hm;refine ⟨.fix fs[fs.length - 1],f1,?_,⟨hm,l,el⟩,rfl,hf1⟩;simp only [Option.bind_some,if_true,i0,ng,ix];rfl
    | false=>exact ⟨.inp 0,f1,rfl,hb2 rfl,rfl,hf1⟩
  obtain ⟨x,f1,e1,hx,hxp,hf1⟩:=first
  have snd:∃ L f',Eh (.tup [.tup fs,.tup ds]) (.int (many:Nat)) f1 (.lst (nD [x]))=some (f',.lst (nD L))/\BS I fs ds L/\Zx L/\0 < L.length/\L.length<=60/\Fd f':=by
    have ok1:BS I fs ds [x]:=fun i y hy=>by
      cases i with
      | zero=>cases hy;exact hx
      | succ i=>simp at hy
    have cv1:Zx [x]:=fun i hi=>by simp at hi
    unfold Eh;simp only [i1,l1,Option.bind_some,Bv]
    by_cases h0:(0:Int) < (ds.length:Nat)
    · simp only [h0,decide_true,if_true,NL many (show many<=1000000 by omega),Option.bind_some];obtain ⟨⟨f2,l2⟩,e2,L,rfl,hL,hcv,hLl,hf2⟩:=Hf (P:=fun i c=>∃ L,c.2=.lst (nD L)/\BS I fs ds L/\Zx L/\L.length=i+1/\Fd c.1) (Ep (.tup [.tup fs,.tup ds])) many (f1,.lst (nD [x])) ⟨[x],rfl,ok1,cv1,rfl,hf1⟩ fun i hi c hc=>by
        obtain ⟨f,l⟩:=c;obtain ⟨L,rfl,hL,hcv,hLl,hf⟩:=hc;obtain ⟨r,g1,a,k,q1,hg1,ex,⟨t,rfl⟩,hk,hmm⟩:=Hk hds hdl hf (by omega);have mu:Bw (.tup [.int (i:Nat)]) (.int k)=some (tI (List.replicate k.toNat i)):=by
          simp only [Bw];rw [if_pos ⟨by simp,by omega,by omega,by simp;omega⟩];rcases hk with rfl | rfl<;>rfl
        have okn:Dl I fs ds L.length (.act (.str t) (List.replicate k.toNat i)):=⟨⟨k,hmm,by rw [List.length_replicate];omega,hk,t,rfl⟩,fun p hp=>by rw [List.eq_of_mem_replicate hp];omega⟩;refine ⟨(g1,.lst (nD (L++[.act (.str t) (List.replicate k.toNat i)]))),?_,_,rfl,hL.snoc okn,fun j hj=>?_,by simp [hLl],hg1⟩
        · unfold Ep;simp only [i1,l1,Option.bind_some,q1,ex];rw [Kd];simp only [DT,mu,Option.bind_some,DA (show (nD L).length<=1000000 by rw [Dh];omega)];simp [nD,Nd.dv,Kl]
        · simp at hj
          by_cases w:j+1 < L.length
          · obtain ⟨m,y,hy,z⟩:=hcv j w;exact ⟨m,y,by rw [List.getElem?_append_left (List.getElem?_eq_some_iff.mp hy).1];exact hy,z⟩
          · refine ⟨L.length,_,by rw [List.getElem?_append_right (Nat.le_refl _),Nat.sub_self];rfl,?_⟩;have:j=i:=by omega
            subst this;exact List.mem_replicate.mpr ⟨by omega,rfl⟩
      rw [e2];exact ⟨L,f2,rfl,hL,hcv,by omega,by omega,hf2⟩
    · simp only [h0,decide_false,Bool.false_eq_true,if_false];exact ⟨[x],f1,rfl,ok1,cv1,by simp,by simp,hf1⟩
  obtain ⟨L,f2,e2,hL,hcv,L0,Ll,hf2⟩:=snd;have s1:Gn (.int (L.length:Nat)) (.int 1)=some (.int ((L.length - 1:Nat))):=by
    show some (Dv.int ((L.length:Int) - 1))=_;congr 2;omega
  refine ⟨_,f2,?_,⟨L,rfl,hL,hcv,L0,by omega⟩,hf2⟩;unfold EB;rw [e1];simp only [Option.bind_some,e2,AZ,Qp,s1]
end
noncomputable def LR (st:List Nat->Nd->Nat) (xs:List Nd) (acc:List Nat):List Nat:=xs.foldl (fun a x=>a++[st a x]) acc
theorem DQ {g:Dv->Dv->Option Dv} {st:List Nat->Nd->Nat} (Pv:Nat->Prop):∀ (xs:List Nd) (acc:List Nat),(∀ t∈acc,Pv t)->(∀ i x,xs[i]?=some x->∀ a:List Nat,a.length=acc.length+i->(∀ t∈a,Pv t)->g x.dv (.lst (nI a))=some (.lst (nI (a++[st a x])))/\Pv (st a x))->Ap g (nD xs) (.lst (nI acc))=some (.lst (nI (LR st xs acc)))/\(∀ t∈LR st xs acc,Pv t)
 | [],acc,ha,_=>⟨rfl,ha⟩
 | x::xs,acc,ha,h=>by
  obtain ⟨e,p⟩:=h 0 x rfl acc rfl ha;obtain ⟨e2,p2⟩:=DQ (g:=g) (st:=st) Pv xs (acc++[st acc x]) (fun t ht=>by
   rcases List.mem_append.mp ht with ht | ht
   ·exact ha t ht
   ·rw [List.mem_singleton] at ht;rw [ht];exact p) fun i y hy a hl hp=>h (i+1) y hy a (by rw [hl];simp;omega) hp
  refine ⟨?_,p2⟩;simp only [nD] at e2;simp only [nD,List.map_cons,Ap,e,Option.bind_some];exact e2
theorem EK (st:List Nat->Nd->Nat):∀ (xs:List Nd) (acc:List Nat),(LR st xs acc).length=acc.length+xs.length
 | [],acc=>rfl
 | x::xs,acc=>by
  have:=EK st xs (acc++[st acc x]);unfold LR at *;rw [List.foldl_cons,this];simp;omega
theorem Me (st:List Nat->Nd->Nat):∀ (xs:List Nd) (acc:List Nat),∃ t,LR st xs acc=acc++t
 | [],acc=>⟨[],by simp [LR]⟩
 | x::xs,acc=>by
  obtain ⟨t,e⟩:=Me st xs (acc++[st acc x]);exact ⟨st acc x::t,by unfold LR at *;rw [List.foldl_cons,e];simp⟩
def eI (st:List Nat->Nd->Nat):Prop:=∀ a b x,(∀ p∈x.parts,a.getD p 0=b.getD p 0)->st a x=st b x
theorem Qy {a t:List Nat} {p:Nat} (h:p < a.length):(a++t).getD p 0=a.getD p 0:=by simp [List.getD,List.getElem?_append_left h]
theorem Ig {st:List Nat->Nd->Nat} (hl:eI st):∀ (xs:List Nd) (acc:List Nat) (i:Nat) (x:Nd),xs[i]?=some x->(∀ p∈x.parts,p < acc.length+i)->(LR st xs acc).getD (acc.length+i) 0=st (LR st xs acc) x
 | [],_,_,_,h,_=>by simp at h
 | y::ys,acc,0,x,h,hp=>by
  simp at h;subst h;obtain ⟨t,e⟩:=Me st ys (acc++[st acc y]);have e':LR st (y::ys) acc=acc++([st acc y]++t):=by unfold LR at *;rw [List.foldl_cons,e];simp
  rw [e',hl (acc++([st acc y]++t)) acc y fun p h=>Qy (by have:=hp p h;omega)];simp [List.getD]
 | y::ys,acc,i+1,x,h,hp=>by
  have:=Ig hl ys (acc++[st acc y]) i x (by simpa using h) fun p h=>by have:=hp p h;simp;omega
  unfold LR at *;rw [List.foldl_cons];rw [List.length_append,List.length_singleton,show acc.length+1+i=acc.length+(i+1) by omega] at this;exact this
theorem Ma {l:List Nat}:∀ {fs:List Dv},Dv.str l∈fs->∃ j,FQ (.str l) fs=some j/\j < fs.length
 | [],h=>by cases h
 | x::xs,h=>by
  unfold FQ
  by_cases e:R.eqV x (.str l)=true
  ·exact ⟨0,by rw [if_pos e],by simp⟩
  ·have:Dv.str l∈xs:=(List.mem_cons.mp h).resolve_left fun z=>e (by rw [<- z];simp [R.eqV])
   obtain ⟨j,q,hj⟩:=Ma this;exact ⟨j+1,by rw [if_neg e,q];rfl,by simp;omega⟩
theorem Mk {l:List Nat} {r:Int}:∀ {ds:List Dv},(∀ x∈ds,FG 5 x)->ds.Pairwise (fun x y=>FR x≠FR y)->Dv.tup [.str l,.int r]∈ds->∃ j,FQ (.str l) (ds.map FR)=some j/\ds[j]?=some (.tup [.str l,.int r])
 | [],_,_,h=>by cases h
 | x::xs,hd,pw,h=>by
  rw [List.map_cons];unfold FQ;rcases List.mem_cons.mp h with e | hm
  ·refine ⟨0,?_,by rw [<- e];rfl⟩;rw [if_pos (by rw [<- e];simp [FR,R.eqV])]
  ·obtain ⟨a,r',rfl,⟨l',rfl,_⟩,_⟩:=hd x List.mem_cons_self;have ne:=(List.pairwise_cons.mp pw).1 _ hm;have e:¬ R.eqV (FR (.tup [.str l',.int r'])) (.str l)=true:=fun z=>ne (by simp [FR,R.eqV] at z ⊢;exact z)
   obtain ⟨j,q,hj⟩:=Mk (fun y hy=>hd y (List.mem_cons_of_mem _ hy)) (List.pairwise_cons.mp pw).2 hm;exact ⟨j+1,by rw [if_neg e,q];rfl,by simpa using hj⟩
theorem MS {R:Dv->Dv->Prop}:∀ {xs ys:List Dv},Paired R xs ys->∀ {j:Nat} {x:Dv},xs[j]?=some x->∃ y,ys[j]?=some y/\R x y
 | _,_,.nil,j,x,h=>by simp at h
 | _,_,.cons r p,0,x,h=>by simp at h;subst h;exact ⟨_,rfl,r⟩
 | _,_,.cons r p,j+1,x,h=>by obtain ⟨y,e,z⟩:=MS p (j:=j) (by simpa using h);exact ⟨y,by simpa using e,z⟩
theorem IE:∀ {xs:List Dv},(∀ x∈xs,∃ l,x=.str l)->Am xs=true/\BB xs=0
 | [],_=>⟨rfl,rfl⟩
 | x::xs,h=>by
  obtain ⟨l,rfl⟩:=h x List.mem_cons_self;obtain ⟨h1,h2⟩:=IE (xs:=xs) fun y hy=>h y (List.mem_cons_of_mem _ hy)
  simp only [Am,BB,Dv.cmp,Dv.dep,h1,h2,Bool.and_self];exact ⟨trivial,rfl⟩
def Lo (t:Dv):List Nat->Dv
 | []=>t
 | a::as=>Lo (sub t a) as
def ac (t:Dv) (ths:List Nat):Nat:=match Lo t ths with | .int c=>c.toNat | _=>0
theorem TK {n:Nat} {r:Int} {t:Dv} {ths:List Nat} (ht:Tab n r t) (hr:r=1\/r=2) (hl:(ths.length:Int)=r) (hx:∀ a∈ths,a < n):Ap FU (nI ths) t=some (.int (ac t ths:Nat))/\Ap DH (nI ths) t=some (.int (ac t ths:Nat))/\ac t ths < n:=by
 rcases hr with rfl | rfl
 ·obtain ⟨a,rfl⟩:∃ a,ths=[a]:=List.length_eq_one_iff.mp (by omega);obtain ⟨e,b⟩:=MK ht.one (hx a List.mem_cons_self);have s:sub t a=.int (Wu t a:Nat):=by unfold sub;rw [e];rfl
  have c:ac t [a]=Wu t a:=by unfold ac Lo Lo;rw [s];simp
  rw [c];exact ⟨by simp only [nI,List.map_cons,List.map_nil,Ap,FU,e,Option.bind_some],by simp only [nI,List.map_cons,List.map_nil,Ap,DH,e,Option.bind_some],b⟩
 ·obtain ⟨a,b,rfl⟩:∃ a b,ths=[a,b]:=match ths,(show ths.length=2 by omega) with | [a,b],_=>⟨a,b,rfl⟩
  obtain ⟨e,rw1⟩:=TJ ht.two (hx a List.mem_cons_self);obtain ⟨e2,b2⟩:=MK rw1 (hx b (by simp));have s:sub (sub t a) b=.int (Wu (sub t a) b:Nat):=by unfold sub at e2 ⊢;rw [e2];rfl
  have c:ac t [a,b]=Wu (sub t a) b:=by unfold ac Lo Lo Lo;rw [s];simp
  rw [c];exact ⟨by simp only [nI,List.map_cons,List.map_nil,Ap,FU,e,e2,Option.bind_some],by simp only [nI,List.map_cons,List.map_nil,Ap,DH,e,e2,Option.bind_some],b2⟩
def Kk (ds T:List Dv) (d:Dv):Dv:=T.getD ((FQ d (ds.map FR)).getD 0) .non
def Nz (fs:List Dv) (cs:List Nat) (c:Dv):Nat:=cs.getD ((FQ c fs).getD 0) 0
def nv (fs ds:List Dv) (cs ins:List Nat) (T:List Dv) (acc:List Nat):Nd->Nat
 | .inp k=>ins.getD k 0
 | .fix c=>Nz fs cs c
 | .act d ps=>ac (Kk ds T d) (ps.map fun p=>acc.getD p 0)
theorem Ya {fs ds:List Dv} {cs ins:List Nat} {T:List Dv}:eI (nv fs ds cs ins T):=fun a b x h=>by
 cases x with
 | inp k=>rfl
 | fix c=>rfl
 | act d ps =>
  show ac _ _=ac _ _;congr 1;exact List.map_congr_left fun p hp=>h p hp
section
variable {n I:Nat} {fs ds:List Dv} {w:Dv} {cs ins:List Nat} {T:List Dv}
theorem GT (hd:∀ x∈ds,FG 5 x) (g:Dv->Option Dv) (hg:∀ a r,g (.tup [a,.int r])=some a):Az g ds=some (ds.map FR):=by
 induction ds with
 | nil=>rfl
 | cons x xs ih =>
  obtain ⟨a,r,rfl,_⟩:=hd x List.mem_cons_self;simp only [Az,hg,ih fun y hy=>hd y (List.mem_cons_of_mem _ hy),Option.bind_some,List.map_cons];rfl
theorem Qi (hd:∀ x∈ds,FG 5 x):Am (ds.map FR)=true/\BB (ds.map FR)=0:=IE fun x hx=>by
 obtain ⟨y,hy,rfl⟩:=List.mem_map.mp hx;obtain ⟨a,r,rfl,⟨l,rfl,_⟩,_⟩:=hd y hy;exact ⟨l,rfl⟩
theorem Hl (hd:∀ x∈ds,FG 5 x) (hdl:ds.length<=1000) (pw:ds.Pairwise (fun x y=>FR x≠FR y)) (W:Wl n fs.length ds w cs T) {l:List Nat} {r:Int} (hm:Dv.tup [.str l,.int r]∈ds) (hr:r=1\/r=2) {ths:List Nat} (hl:(ths.length:Int)=r) (hx:∀ a∈ths,a < n) :
    JN (.tup [.tup fs,.tup ds]) w (.str l) (.lst (nI ths))=some (.int (ac (Kk ds T (.str l)) ths:Nat))/\EC (.tup [.tup fs,.tup ds]) w (.str l) (.lst (nI ths))=some (.int (ac (Kk ds T (.str l)) ths:Nat))/\ac (Kk ds T (.str l)) ths < n:=by
  obtain ⟨j,ej,hj⟩:=Mk hd pw hm;obtain ⟨t,et,ht⟩:=MS W.2.2.2 hj;obtain ⟨a',r',e,_,ht⟩:=ht;simp only [Dv.tup.injEq,List.cons.injEq,Dv.int.injEq,and_true] at e;obtain ⟨_,rfl⟩:=e;have td:Kk ds T (.str l)=t:=by unfold Kk;rw [ej];simp [List.getD,et]
  rw [td];obtain ⟨h1,h2,h3⟩:=TK ht hr hl hx;have i1:AA (.tup [.tup fs,.tup ds]) (.int 1)=some (.tup ds):=rfl;have it:items (.tup ds)=some ds:=rfl;have it2:items (.lst (nI ths))=some (nI ths):=rfl;obtain ⟨c1,c2⟩:=Qi hd;have ix:Ca (.lst (ds.map FR)) (.str l)=some (.int (j:Nat)):=by
    simp only [Ca,Dv.cmp,c1,c2,Bool.and_self,Nat.zero_le,decide_true,if_true,ej,Option.map_some]
  have jT:j < T.length:=(List.getElem?_eq_some_iff.mp et).1;have at_:AA (.tup T) (.int (j:Nat))=some t:=by
    show DV T (j:Int)=_;rw [atI_nat T j jT];rw [List.getElem?_eq_getElem jT] at et;exact et
  refine ⟨?_,?_,h3⟩
  · unfold JN Dz Fw;simp only [W.w2,i1,it,Option.bind_some];rw [Aq (by omega),GT hd GE (fun a r=>rfl)];simp only [Option.bind_some,DT,ix,Option.some_or,at_,it2];rw [h1];rfl
  · unfold EC HR;simp only [W.w2,i1,it,Option.bind_some];rw [Aq (by omega),GT hd HW (fun a r=>rfl)];simp only [Option.bind_some,DT,ix,Option.some_or,at_,it2];rw [h2];rfl
theorem Gc (hfs:∀ x∈fs,Tx 10 x) (W:Wl n fs.length ds w cs T) {c:Dv} (hc:c∈fs):∃ j:Nat,De (.tup [.tup fs,.tup ds]) c=some (.int (j:Nat))/\(∀ d1,AA d1 (.int 1)=some c->Ee (.tup [.tup fs,.tup ds]) d1=some (.int (j:Nat)))/\AA (tI cs) (.int (j:Nat))=some (.int (Nz fs cs c:Nat))/\Nz fs cs c < n:=by
 obtain ⟨l,rfl,_⟩:=hfs c hc;obtain ⟨j,ej,hj⟩:=Ma hc;obtain ⟨c1,c2⟩:=IE (xs:=fs) fun x hx=>by obtain ⟨l,e,_⟩:=hfs x hx;exact ⟨l,e⟩
 have i0:AA (.tup [.tup fs,.tup ds]) (.int 0)=some (.tup fs):=rfl;have ix:Bm (.tup fs) (.str l)=some (.int (j:Nat)):=by
  simp only [Bm,Dv.cmp,c1,c2,Bool.and_self,Nat.zero_le,decide_true,if_true,ej,Option.map_some]
 have jl:j < cs.length:=by rw [W.2.1];exact hj
 have fv:Nz fs cs (.str l)=cs.getD j 0:=by unfold Nz;rw [ej];rfl
 refine ⟨j,?_,fun d1 h=>?_,by rw [fv];exact Bp jl,by rw [fv];exact W.2.2.1 _ (getD_mem jl)⟩
 ·unfold De;simp only [i0,Option.bind_some,Wa,cD,ix,Option.none_or]
 ·unfold Ee;simp only [i0,Option.bind_some,Wa,cD,h,ix,Option.none_or]
variable {inp:Dv}
theorem Nc (hfs:∀ x∈fs,Tx 10 x) (hd:∀ x∈ds,FG 5 x) (hdl:ds.length<=1000) (pw:ds.Pairwise (fun x y=>FR x≠FR y)) (W:Wl n fs.length ds w cs T) (hin:∀ k < I,AA inp (.int (k:Nat))=some (.int (ins.getD k 0:Nat))/\ins.getD k 0 < n) {i:Nat} {x:Nd} (hx:Dl I fs ds i x) {a:List Nat} (hl:a.length=i) (ha:∀ t∈a,t < n) :
    BI (.tup [.tup fs,.tup ds]) x.dv w inp (.lst (nI a))=some (.int (nv fs ds cs ins T a x:Nat))/\nv fs ds cs ins T a x < n:=by
  cases x with
  | inp k =>
    have e0:AA (Nd.inp k).dv (.int 0)=some Dc:=rfl;have e1:AA (Nd.inp k).dv (.int 1)=some (.int (k:Nat)):=rfl;have b:Do Dc (.str [105,110,112,117,116])=some true:=rfl;unfold BI;simp only [e0,e1,Option.bind_some,b,if_true,(hin k hx).1];exact ⟨rfl,(hin k hx).2⟩
  | fix c =>
    have e0:AA (Nd.fix c).dv (.int 0)=some CQ:=rfl;have e1:AA (Nd.fix c).dv (.int 1)=some c:=rfl;have b:Do CQ (.str [105,110,112,117,116])=some false:=rfl;have b2:Do CQ (.str [102,105,120,101,100])=some true:=rfl;obtain ⟨j,h1,_,h2,h3⟩:=Gc hfs W hx.1;unfold BI ED;simp only [e0,e1,Option.bind_some,b,b2,Bool.false_eq_true,if_false,if_true,W.w1,h1,h2];exact ⟨rfl,h3⟩
  | act d ps =>
    obtain ⟨⟨r,hm,hpl,hr,l,rfl⟩,hp⟩:=hx;have e0:AA (Nd.act (.str l) ps).dv (.int 0)=some Kl:=rfl;have e1:AA (Nd.act (.str l) ps).dv (.int 1)=some (.str l):=rfl;have e2:AA (Nd.act (.str l) ps).dv (.int 2)=some (tI ps):=rfl;have it:items (tI ps)=some (nI ps):=rfl;have b:Do Kl (.str [105,110,112,117,116])=some false:=rfl;have b2:Do Kl (.str [102,105,120,101,100])=some false:=rfl;have m:Az (Bh (.lst (nI a))) (nI ps)=some (nI (ps.map fun p=>a.getD p 0)):=by
      have:∀ qs:List Nat,(∀ p∈qs,p < i)->Az (Bh (.lst (nI a))) (nI qs)=some (nI (qs.map fun p=>a.getD p 0)):=fun qs hq=>by
        induction qs with
        | nil=>rfl
        | cons p qs ih =>
          have ih:=ih fun q z=>hq q (List.mem_cons_of_mem _ z)
          have ix:AA (.lst (nI a)) (.int (p:Nat))=some (.int (a.getD p 0:Nat)):=Bp (show p < a.length by rw [hl];exact hq p List.mem_cons_self);simp only [nI] at ih ix;simp only [nI,List.map_cons,Az,Bh,ix,Option.bind_some,ih]
      exact this ps hp
    obtain ⟨h1,_,h3⟩:=Hl (fs:=fs) hd hdl pw W hm hr (ths:=ps.map fun p=>a.getD p 0) (by simpa using hpl) fun y hy=>by
      obtain ⟨p,hp',rfl⟩:=List.mem_map.mp hy;exact ha _ (getD_mem (by rw [hl];exact hp p hp'))
    unfold BI;simp only [e0,e1,e2,it,Option.bind_some,b,b2,Bool.false_eq_true,if_false];rw [Aq (by rw [Ay];omega),m];simp only [Option.bind_some,h1];exact ⟨rfl,h3⟩
def Dq (fs ds:List Dv) (cs ins:List Nat) (T:List Dv) (F:List Nd):List Nat:=LR (nv fs ds cs ins T) F []
theorem Kc (hfs:∀ x∈fs,Tx 10 x) (hd:∀ x∈ds,FG 5 x) (hdl:ds.length<=1000) (pw:ds.Pairwise (fun x y=>FR x≠FR y)) (W:Wl n fs.length ds w cs T) (hin:∀ k < I,AA inp (.int (k:Nat))=some (.int (ins.getD k 0:Nat))/\ins.getD k 0 < n) {F:List Nd} (hF:BS I fs ds F) (h0:0 < F.length) (hF1:F.length<=1000) :
    GJ (.tup [.tup fs,.tup ds]) (.tup [.tup (nD F),.int ((F.length - 1:Nat))]) w inp=some (.int ((Dq fs ds cs ins T F).getD (F.length - 1) 0:Nat))/\∀ t∈Dq fs ds cs ins T F,t < n:=by
  obtain ⟨e,p⟩:=DQ (g:=Dw (.tup [.tup fs,.tup ds]) w inp) (st:=nv fs ds cs ins T) (· < n) F [] (fun t h=>by cases h) fun i x hx a hl ha=>by
    obtain ⟨h1,h2⟩:=Nc hfs hd hdl pw W hin (hF i x hx) (a:=a) (by simpa using hl) ha;refine ⟨?_,h2⟩;have hi:=(List.getElem?_eq_some_iff.mp hx).1;have nl:UX (.int (nv fs ds cs ins T a x:Nat))=true:=rfl;unfold Dw;simp only [DT,h1,Option.bind_some,nl,cond_true,DA (show (nI a).length<=1000000 by rw [Ay,hl];simp;omega)];rw [IT];rfl
  refine ⟨?_,p⟩;have i0:AA (.tup [.tup (nD F),.int ((F.length - 1:Nat))]) (.int 0)=some (.tup (nD F)):=rfl;have i1:AA (.tup [.tup (nD F),.int ((F.length - 1:Nat))]) (.int 1)=some (.int ((F.length - 1:Nat))):=rfl;have it:items (.tup (nD F))=some (nD F):=rfl;unfold GJ;simp only [i0,i1,it,Option.bind_some];have e':Ap (Dw (.tup [.tup fs,.tup ds]) w inp) (nD F) (.lst [])=some (.lst (nI (Dq fs ds cs ins T F))):=e;rw [e'];have ix:AA (.lst (nI (Dq fs ds cs ins T F))) (.int ((F.length - 1:Nat)))=some (.int ((Dq fs ds cs ins T F).getD (F.length - 1) 0:Nat)):=Bp (by unfold Dq;rw [EK];simp;omega);simp only [Option.bind_some,ix]
end
def kn (V ks:List Nat):Dv:=.dct (kI ks) (nI (ks.map fun k=>V.getD k 0))
theorem MW (V:List Nat) (k:Nat):∀ {ks:List Nat},k∈ks->DU (.inl ((k:Nat):Int)) (kI ks) (nI (ks.map fun k=>V.getD k 0))=some (.int (V.getD k 0:Nat))
 | [],h=>by cases h
 | x::ks,h=>by
  simp only [kI,nI,List.map_cons,DU]
  by_cases e:x=k
  ·subst e;rw [if_pos rfl]
  ·have e1:¬ (Sum.inl ((x:Nat):Int):Av)=Sum.inl ((k:Nat):Int):=fun z=>e (by have:=Sum.inl.inj z;omega)
   rw [if_neg e1];exact MW V k ((List.mem_cons.mp h).resolve_left fun z=>e z.symm)
theorem WY (V ks:List Nat) (k:Nat):Gj (.int (k:Nat)) (kn V ks)=some (!decide (k∈ks)):=by
 have:=Gf k ks (nI (ks.map fun k=>V.getD k 0)) (by rw [Ay];simp);show some (!(DU (.inl ((k:Nat):Int)) (kI ks) (nI (ks.map fun k=>V.getD k 0))).isSome)=_;rw [this]
theorem Yn {V ks:List Nat} {k:Nat} (h:k∈ks):AA (kn V ks) (.int (k:Nat))=some (.int (V.getD k 0:Nat)):=by
 simp only [kn,AA,FK,Option.bind_some,MW V k h]
theorem LL {V ks:List Nat} {k:Nat} (h:k∉ks) (hl:ks.length<=1000000):AS (kn V ks) (.int (k:Nat)) (.int (V.getD k 0:Nat))=some (kn V (ks++[k])):=by
 have a:(kI ks).any (fun j=>decide (j=Sum.inl ((k:Nat):Int)))=false:=by rw [Qs];simp [h]
 have l:(kI ks).length<=1000000:=by simpa [kI] using hl
 simp only [kn,AS,FK,Option.bind_some,if_pos l,OJ,OG,a,Bool.false_eq_true,if_false];congr 2
 ·simp [kI]
 ·simp [nI]
section
variable {n I:Nat} {fs ds:List Dv} {w:Dv} {cs ins:List Nat} {T:List Dv}
theorem Kj (hfs:∀ x∈fs,Tx 10 x) (hd:∀ x∈ds,FG 5 x) (hdl:ds.length<=1000) (pw:ds.Pairwise (fun x y=>FR x≠FR y)) (W:Wl n fs.length ds w cs T) (hin:∀ k < I,k < ins.length) {F:List Nd} (hF:BS I fs ds F) (hF1:F.length<=150) {V:List Nat} (hV:V=Dq fs ds cs ins T F) (hVn:∀ t∈V,t < n) :
    ∀ (at_ m:Nat) (ks:List Nat),at_ < m->at_ < F.length->ks.Nodup->(∀ k∈ks,k < F.length)->∃ ex,Ao m (.tup [.tup fs,.tup ds]) w (tI ins) (.tup (nD F)) (.int (at_:Nat)) (kn V ks)=some (.int (V.getD at_ 0:Nat),kn V (ks++ex))/\(∀ k∈ex,k<=at_)/\(ks++ex).Nodup:=by
  intro at_
  induction at_ using Nat.strongRecOn with
  | ind at_ ih =>
  intro m ks hm hat nd lt;obtain ⟨m,rfl⟩:∃ m',m=m'+1:=⟨m - 1,by omega⟩;have hx:=List.getElem?_eq_getElem hat;have ok:=hF at_ _ hx;have kl:ks.length<=F.length:=Cr nd lt;have eqV:V.getD at_ 0=nv fs ds cs ins T V F[at_]:=by
    rw [hV];have:=Ig (st:=nv fs ds cs ins T) Ya F [] at_ F[at_] hx fun p hp=>by simpa using ok.part p hp
    simp only [List.length_nil,Nat.zero_add] at this;exact this
  have fin:∀ ex,CK (Ao m) (.tup [.tup fs,.tup ds]) w (tI ins) (.tup (nD F)) (.int (at_:Nat)) (kn V ks)=some (kn V (ks++ex))->at_∈ks++ex->Ao (m+1) (.tup [.tup fs,.tup ds]) w (tI ins) (.tup (nD F)) (.int (at_:Nat)) (kn V ks)=some (.int (V.getD at_ 0:Nat),kn V (ks++ex)):=fun ex e hm=>by
    unfold Ao;simp only [e,Option.bind_some,Yn hm]
  by_cases hk:at_∈ks
  · refine ⟨[],fin [] ?_ (by simpa using hk),(fun k z=>by cases z),by simpa using nd⟩;unfold CK;simp only [WY,decide_eq_true hk,Bool.not_true,Option.bind_some,Bool.false_eq_true,if_false,List.append_nil]
  · have go:∀ {d:Dv},CL (Ao m) (.tup [.tup fs,.tup ds]) w (tI ins) (.tup (nD F)) (.int (at_:Nat)) (kn V ks) F[at_].dv=some d->CK (Ao m) (.tup [.tup fs,.tup ds]) w (tI ins) (.tup (nD F)) (.int (at_:Nat)) (kn V ks)=some d:=fun {d} e=>by
      unfold CK;simp only [WY,decide_eq_false hk,Bool.not_false,Option.bind_some,if_true,Qg hat,e]
    have nd1:(ks++[at_]).Nodup:=List.nodup_append.mpr ⟨nd,by simp,fun a ha b hb=>by rw [List.mem_singleton] at hb;subst hb;exact fun e=>hk (e▸ha)⟩;cases q:F[at_] with
    | inp k =>
      rw [q] at ok eqV go;have e0:AA (Nd.inp k).dv (.int 0)=some Dc:=rfl;have e1:AA (Nd.inp k).dv (.int 1)=some (.int (k:Nat)):=rfl;have b:Do Dc (.str [105,110,112,117,116])=some true:=rfl;have eqV':V.getD at_ 0=ins.getD k 0:=eqV;refine ⟨[at_],fin [at_] (go ?_) (by simp),(fun k z=>by simp at z;omega),nd1⟩;unfold CL;simp only [e0,e1,Option.bind_some,b,if_true,Bp (hin k ok),<- eqV',LL hk (show ks.length<=1000000 by omega)]
    | fix c =>
      rw [q] at ok eqV go;have e0:AA (Nd.fix c).dv (.int 0)=some CQ:=rfl;have e1:AA (Nd.fix c).dv (.int 1)=some c:=rfl;have b:Do CQ (.str [105,110,112,117,116])=some false:=rfl;have b2:Do CQ (.str [102,105,120,101,100])=some true:=rfl;have eqV':V.getD at_ 0=Nz fs cs c:=eqV;obtain ⟨j,_,h1,h2,_⟩:=Gc hfs W ok.1;refine ⟨[at_],fin [at_] (go ?_) (by simp),(fun k z=>by simp at z;omega),nd1⟩;unfold CL;simp only [e0,Option.bind_some,b,Bool.false_eq_true,if_false];unfold Ed;simp only [e0,Option.bind_some,b2,if_true,W.w1,h1 _ e1,h2,<- eqV',LL hk (show ks.length<=1000000 by omega)]
    | act d ps =>
      rw [q] at ok eqV go;obtain ⟨⟨r,hmm,hpl,hr,l,rfl⟩,hp⟩:=ok;have e0:AA (Nd.act (.str l) ps).dv (.int 0)=some Kl:=rfl;have e1:AA (Nd.act (.str l) ps).dv (.int 1)=some (.str l):=rfl;have e2:AA (Nd.act (.str l) ps).dv (.int 2)=some (tI ps):=rfl;have it:items (tI ps)=some (nI ps):=rfl;have b:Do Kl (.str [105,110,112,117,116])=some false:=rfl;have b2:Do Kl (.str [102,105,120,101,100])=some false:=rfl;have eqV':V.getD at_ 0=ac (Kk ds T (.str l)) (ps.map fun p=>V.getD p 0):=eqV;have parts:∀ (qs:List Nat),(∀ p∈qs,p < at_)->∀ ks:List Nat,ks.Nodup->(∀ k∈ks,k < F.length)->∃ ex,BD (Ek (Ao m) (.tup [.tup fs,.tup ds]) w (tI ins) (.tup (nD F))) (nI qs) (kn V ks)=some (nI (qs.map fun p=>V.getD p 0),kn V (ks++ex))/\(∀ k∈ex,k < at_)/\(ks++ex).Nodup:=fun qs=>by
        induction qs with
        | nil=>exact fun _ ks nd _=>⟨[],by simp [nI,BD],(fun k z=>by cases z),by simpa using nd⟩
        | cons p qs ihq =>
          intro hq ks nd lt;have hp':=hq p List.mem_cons_self;obtain ⟨ex1,q1,q2,q3⟩:=ih p hp' m ks (by omega) (by omega) nd lt;obtain ⟨ex2,q4,q5,q6⟩:=ihq (fun z hz=>hq z (List.mem_cons_of_mem _ hz)) (ks++ex1) q3 fun k hk=>by
            rcases List.mem_append.mp hk with hk | hk
            · exact lt k hk
            · have:=q2 k hk;omega
          refine ⟨ex1++ex2,?_,fun k hk=>?_,by rw [<- List.append_assoc];exact q6⟩
          · simp only [nI] at q4;simp only [nI,List.map_cons,BD,Ek,q1,Option.bind_some,q4,List.append_assoc]
          · rcases List.mem_append.mp hk with hk | hk
            · have:=q2 k hk;omega
            · exact q5 k hk
      obtain ⟨ex,q1,q2,q3⟩:=parts ps hp ks nd lt;have hk2:at_∉ks++ex:=fun z=>by
        rcases List.mem_append.mp z with z | z
        · exact hk z
        · have:=q2 _ z;omega
      obtain ⟨_,h2,_⟩:=Hl (fs:=fs) hd hdl pw W hmm hr (ths:=ps.map fun p=>V.getD p 0) (by simpa using hpl) fun y hy=>by
        obtain ⟨p,hp',rfl⟩:=List.mem_map.mp hy;refine hVn _ (getD_mem ?_);rw [hV];unfold Dq;rw [EK];simp;have:=hp p hp';omega
      have kl2:(ks++ex).length<=F.length:=Cr q3 fun k hk=>by
        rcases List.mem_append.mp hk with hk | hk
        · exact lt k hk
        · have:=q2 k hk;omega
      refine ⟨ex++[at_],fin (ex++[at_]) (go ?_) (by simp),fun k hk=>?_,?_⟩
      · unfold CL;simp only [e0,Option.bind_some,b,Bool.false_eq_true,if_false];unfold Ed;simp only [e0,e1,e2,it,Option.bind_some,b2,Bool.false_eq_true,if_false];rw [Aq (by rw [Ay];omega),q1];simp only [Option.bind_some,h2,<- eqV',LL hk2 (show (ks++ex).length<=1000000 by omega),List.append_assoc]
      · rcases List.mem_append.mp hk with hk | hk
        · have:=q2 k hk;omega
        · simp at hk;omega
      · rw [<- List.append_assoc];exact List.nodup_append.mpr ⟨q3,by simp,fun a ha b hb=>by rw [List.mem_singleton] at hb;subst hb;exact fun e=>hk2 (e▸ha)⟩
end
noncomputable def Gw (l:List Nat):Nat:=l.foldr max 0
theorem IU {l:List Nat} {x:Nat} (h:x∈l):x<=Gw l:=by
 induction l with
 | nil=>cases h
 | cons a l ih =>
  unfold Gw at *;rw [List.foldr_cons];rcases List.mem_cons.mp h with rfl | h
  ·omega
  ·have:=ih h;omega
theorem FW:∀ {l:List Nat},l≠[]->Gw l∈l
 | [],h=>(h rfl).elim
 | [a],_=>by simp [Gw]
 | a::b::l,_=>by
  have ih:=FW (l:=b::l) (by simp);have e:Gw (a::b::l)=max a (Gw (b::l)):=rfl;rw [e];rcases Nat.le_total a (Gw (b::l)) with h | h
  ·rw [Nat.max_eq_right h];exact List.mem_cons_of_mem _ ih
  ·rw [Nat.max_eq_left h];exact List.mem_cons_self
theorem Fi:∀ ts:List Nat,FH (nI ts)=some (ts.map fun t:Nat=>(t:Int))
 | []=>rfl
 | t::ts=>by have:=Fi ts;simp only [nI] at this;simp only [nI,List.map_cons,FH,this,Option.map_some]
theorem Qm {l:List Nat} (h:l≠[]):FO (.lst (nI l))=some (.int (Gw l:Nat)):=by
 have hne:l.map (fun t:Nat=>(t:Int))≠[]:=by simpa using h
 obtain ⟨m1,m2⟩:=Q.mxI_spec _ hne;obtain ⟨x,hx,ex⟩:=List.mem_map.mp m1;have e:Q.mxI (l.map fun t:Nat=>(t:Int))=(Gw l:Nat):=by
  have a:=m2 _ (List.mem_map.mpr ⟨Gw l,FW h,rfl⟩);have b:=IU hx;omega
 unfold FO;simp only [Fi];cases q:l.map (fun t:Nat=>(t:Int)) with
 | nil=>exact (hne q).elim
 | cons a r=>rw [q] at e;simp only [e]
theorem PP (l:List Nat):(l.map fun t:Nat=>(t:Int)).sum=((l.sum:Nat):Int):=by
 induction l with
 | nil=>rfl
 | cons a l ih=>rw [List.map_cons,List.sum_cons,ih,List.sum_cons];omega
theorem XN (l:List Nat):Oe (.lst (nI l))=some (.int (l.sum:Nat)):=by simp only [Oe,Fi,Option.map_some,PP]
def aB (acc:List Nat):Nd->Nat
 | .act _ ps=>1+Gw (ps.map fun p=>acc.getD p 0)
 | _=>0
noncomputable def aC (acc:List Nat):Nd->Nat
 | .act _ ps=>1+(ps.map fun p=>acc.getD p 0).sum
 | _=>0
theorem VD:eI aB:=fun a b x h=>by
 cases x with
 | inp k=>rfl
 | fix c=>rfl
 | act d ps=>show 1+Gw _=1+Gw _;congr 2;exact List.map_congr_left fun p hp=>h p hp
theorem VQ:eI aC:=fun a b x h=>by
 cases x with
 | inp k=>rfl
 | fix c=>rfl
 | act d ps=>show 1+List.sum _=1+List.sum _;congr 2;exact List.map_congr_left fun p hp=>h p hp
theorem Dg (g:Dv->Option Dv) (a:List Nat) {i:Nat} (hl:a.length=i) (hg:∀ p,p < i->g (.int (p:Nat))=some (.int (a.getD p 0:Nat))):∀ qs:List Nat,(∀ p∈qs,p < i)->Az g (nI qs)=some (nI (qs.map fun p=>a.getD p 0))
 | [],_=>rfl
 | p::qs,h=>by
  have ih:=Dg g a hl hg qs fun q z=>h q (List.mem_cons_of_mem _ z)
  simp only [nI] at ih;simp only [nI,List.map_cons,Az,hg p (h p List.mem_cons_self),Option.bind_some,ih]
section
variable {I:Nat} {fs ds:List Dv} {F:List Nd}
def Dn (F:List Nd):List Nat:=LR aB F []
def JB (F:List Nd):List Nat:=LR aC F []
theorem VE:(Dn F).length=F.length:=by unfold Dn;rw [EK];simp
theorem VP:(JB F).length=F.length:=by unfold JB;rw [EK];simp
theorem RZ (hF:BS I fs ds F) {i:Nat} {x:Nd} (hx:F[i]?=some x):(Dn F).getD i 0=aB (Dn F) x:=by
 have:=Ig VD F [] i x hx fun p hp=>by simpa using (hF i x hx).part p hp
 simp only [List.length_nil,Nat.zero_add] at this;exact this
theorem ZQ (hF:BS I fs ds F) {i:Nat} {x:Nd} (hx:F[i]?=some x):(JB F).getD i 0=aC (JB F) x:=by
 have:=Ig VQ F [] i x hx fun p hp=>by simpa using (hF i x hx).part p hp
 simp only [List.length_nil,Nat.zero_add] at this;exact this
theorem fT (x:Nd):Do x.kd (.str [100,111])=some (match x with | .act _ _=>true | _=>false):=by cases x<;>rfl
theorem df {i:Nat} {d:Dv} {ps:List Nat} (h:Dl I fs ds i (.act d ps)):ps≠[]/\ps.length<=2:=by
 obtain ⟨⟨r,_,h1,h2,_⟩,_⟩:=h;exact ⟨fun e=>by rw [e] at h1;simp at h1;omega,by omega⟩
theorem Lb (hF:BS I fs ds F) (h0:0 < F.length) (hF1:F.length<=1000):GK (.tup [.tup (nD F),.int ((F.length - 1:Nat))])=some (.int ((Dn F).getD (F.length - 1) 0:Nat)):=by
 obtain ⟨e,_⟩:=DQ (g:=Dy) (st:=aB) (fun _=>True) F [] (fun _ _=>trivial) fun i x hx a hl _=>by
  refine ⟨?_,trivial⟩;have ok:=hF i x hx;have hi:=(List.getElem?_eq_some_iff.mp hx).1;have al:a.length=i:=by simpa using hl
  have s:GC x.dv (.lst (nI a))=some (.int (aB a x:Nat)):=by
   unfold GC;rw [WU];simp only [Option.bind_some,fT];cases x with
   | inp k=>rfl
   | fix c=>rfl
   | act d ps =>
    have e2:AA (Nd.act d ps).dv (.int 2)=some (tI ps):=rfl;have it:items (tI ps)=some (nI ps):=rfl;have m:=Dg (GH (.lst (nI a))) a al (fun p hp=>by
     have ix:AA (.lst (nI a)) (.int (p:Nat))=some (.int (a.getD p 0:Nat)):=Bp (show p < a.length by omega);simp only [GH,ix,Option.bind_some]) ps ok.2
    simp only [if_true,e2,it,Option.bind_some];rw [Aq (by rw [Ay];have:=(df ok).2;omega),m];simp only [Option.bind_some,Qm (l:=ps.map fun p=>a.getD p 0) (by simpa using (df ok).1),BG];congr 2
  unfold Dy;simp only [DT,s,Option.bind_some,DA (show (nI a).length<=1000000 by rw [Ay];omega)];rw [IT];rfl
 have i0:AA (.tup [.tup (nD F),.int ((F.length - 1:Nat))]) (.int 0)=some (.tup (nD F)):=rfl;have i1:AA (.tup [.tup (nD F),.int ((F.length - 1:Nat))]) (.int 1)=some (.int ((F.length - 1:Nat))):=rfl;have it:items (.tup (nD F))=some (nD F):=rfl;have e':Ap Dy (nD F) (.lst [])=some (.lst (nI (Dn F))):=e;have ix:AA (.lst (nI (Dn F))) (.int ((F.length - 1:Nat)))=some (.int ((Dn F).getD (F.length - 1) 0:Nat)):=Bp (by rw [VE];omega);unfold GK;simp only [i0,i1,it,Option.bind_some];rw [e'];simp only [Option.bind_some,ix]
theorem Ld (hF:BS I fs ds F) (h0:0 < F.length) (hF1:F.length<=1000):GL (.tup [.tup (nD F),.int ((F.length - 1:Nat))])=some (.int ((JB F).getD (F.length - 1) 0:Nat)):=by
 obtain ⟨e,_⟩:=DQ (g:=BN) (st:=aC) (fun _=>True) F [] (fun _ _=>trivial) fun i x hx a hl _=>by
  refine ⟨?_,trivial⟩;have ok:=hF i x hx;have hi:=(List.getElem?_eq_some_iff.mp hx).1;have al:a.length=i:=by simpa using hl
  have s:Bq x.dv (.lst (nI a))=some (.int (aC a x:Nat)):=by
   unfold Bq;rw [WU];simp only [Option.bind_some,fT];cases x with
   | inp k=>rfl
   | fix c=>rfl
   | act d ps =>
    have e2:AA (Nd.act d ps).dv (.int 2)=some (tI ps):=rfl;have it:items (tI ps)=some (nI ps):=rfl;have m:=Dg (Br (.lst (nI a))) a al (fun p hp=>by
     have ix:AA (.lst (nI a)) (.int (p:Nat))=some (.int (a.getD p 0:Nat)):=Bp (show p < a.length by omega);simp only [Br,ix,Option.bind_some]) ps ok.2
    simp only [if_true,e2,it,Option.bind_some];rw [Aq (by rw [Ay];have:=(df ok).2;omega),m];simp only [Option.bind_some,XN,BG];congr 2
  unfold BN;simp only [DT,s,Option.bind_some,DA (show (nI a).length<=1000000 by rw [Ay];omega)];rw [IT];rfl
 have i0:AA (.tup [.tup (nD F),.int ((F.length - 1:Nat))]) (.int 0)=some (.tup (nD F)):=rfl;have i1:AA (.tup [.tup (nD F),.int ((F.length - 1:Nat))]) (.int 1)=some (.int ((F.length - 1:Nat))):=rfl;have it:items (.tup (nD F))=some (nD F):=rfl;have e':Ap BN (nD F) (.lst [])=some (.lst (nI (JB F))):=e;have ix:AA (.lst (nI (JB F))) (.int ((F.length - 1:Nat)))=some (.int ((JB F).getD (F.length - 1) 0:Nat)):=Bp (by rw [VP];omega);unfold GL Bi;simp only [i0,i1,it,Option.bind_some];rw [e'];simp only [Option.bind_some,ix]
end
noncomputable def Ol (a:Nat) (d:List Nat) (ps:List Nat):List Nat:=ps.foldl (fun d p=>d.set p (max (d.getD p 0) (d.getD a 0+1))) d
noncomputable def TQ (a:Nat) (w:List Nat) (ps:List Nat):List Nat:=ps.foldl (fun w p=>w.set p (w.getD p 0+w.getD a 0)) w
theorem Dr {l:List Nat} {p b x:Nat} (hp:p < l.length):(l.set p x).getD b 0=if b=p then x else l.getD b 0:=by
 by_cases e:b=p
 ·subst e;simp [List.getD,hp]
 ·rw [if_neg e];simp only [List.getD,List.getElem?_set_ne (fun z=>e z.symm)]
theorem ai {l:List Nat} {p x:Nat} (hp:p < l.length):AS (.lst (nI l)) (.int (p:Nat)) (.int (x:Nat))=some (.lst (nI (l.set p x))):=by
 simp only [AS,Jo];rw [if_pos (by omega),if_pos (by rw [Ay];omega)];simp [nI,List.map_set]
theorem eg (a b:Nat):Cc (.int (a:Nat)) (.int (b:Nat))=some (.int ((max a b:Nat))):=by
 simp only [Cc];congr 2;split<;>omega
theorem cQ {a:Nat}:∀ (ps:List Nat) (d w:List Nat),d.length=w.length->a < d.length->(∀ p∈ps,p < d.length)->Ap (FT (.int (a:Nat))) (nI ps) (.lst (nI d),.lst (nI w))=some (.lst (nI (Ol a d ps)),.lst (nI (TQ a w ps)))
 | [],d,w,_,_,_=>rfl
 | p::ps,d,w,hl,ha,hp=>by
  have hp':=hp p List.mem_cons_self;have g:FT (.int (a:Nat)) (.int (p:Nat)) (.lst (nI d),.lst (nI w))=some (.lst (nI (d.set p (max (d.getD p 0) (d.getD a 0+1)))),.lst (nI (w.set p (w.getD p 0+w.getD a 0)))):=by
   have x1:AA (.lst (nI w)) (.int (p:Nat))=some (.int (w.getD p 0:Nat)):=Bp (by omega);have x2:AA (.lst (nI w)) (.int (a:Nat))=some (.int (w.getD a 0:Nat)):=Bp (by omega);have x3:AA (.lst (nI d)) (.int (p:Nat))=some (.int (d.getD p 0:Nat)):=Bp hp';have x4:AA (.lst (nI d)) (.int (a:Nat))=some (.int (d.getD a 0:Nat)):=Bp ha;have s1:Af (.int (w.getD p 0:Nat)) (.int (w.getD a 0:Nat))=some (.int ((w.getD p 0+w.getD a 0:Nat))):=by rw [BG];congr 1
   have s2:Af (.int (d.getD a 0:Nat)) (.int 1)=some (.int ((d.getD a 0+1:Nat))):=by rw [BG];congr 1
   unfold FT;simp only [x1,x2,x3,x4,s1,s2,eg,ai (l:=w) (p:=p) (by omega),ai (l:=d) (p:=p) hp',Option.bind_some]
  have ih:=cQ (a:=a) ps (d.set p (max (d.getD p 0) (d.getD a 0+1))) (w.set p (w.getD p 0+w.getD a 0)) (by simpa using hl) (by simpa using ha) fun q hq=>by rw [List.length_set];exact hp q (List.mem_cons_of_mem _ hq)
  simp only [nI,List.map_cons,Ap] at g ih ⊢;rw [g,Option.bind_some,ih];rfl
theorem MF (a:Nat):∀ (ps d:List Nat),(Ol a d ps).length=d.length
 | [],d=>rfl
 | p::ps,d=>by unfold Ol;rw [List.foldl_cons];have:=MF a ps (d.set p (max (d.getD p 0) (d.getD a 0+1)));unfold Ol at this;rw [this,List.length_set]
theorem ME (a:Nat):∀ (ps d:List Nat),(TQ a d ps).length=d.length
 | [],d=>rfl
 | p::ps,d=>by unfold TQ;rw [List.foldl_cons];have:=ME a ps (d.set p (d.getD p 0+d.getD a 0));unfold TQ at this;rw [this,List.length_set]
theorem JJ {a:Nat}:∀ (ps d:List Nat),(∀ p∈ps,p < d.length/\p≠a)->(∀ b,d.getD b 0<=(Ol a d ps).getD b 0)/\(∀ p∈ps,d.getD a 0+1<=(Ol a d ps).getD p 0)/\∀ b,(Ol a d ps).getD b 0=d.getD b 0\/(b∈ps/\(Ol a d ps).getD b 0=d.getD a 0+1)
 | [],d,_=>⟨fun _=>Nat.le_refl _,(fun _ z=>by cases z),fun _=>.inl rfl⟩
 | p::ps,d,h=>by
  obtain ⟨hp,hpa⟩:=h p List.mem_cons_self;have e:Ol a d (p::ps)=Ol a (d.set p (max (d.getD p 0) (d.getD a 0+1))) ps:=rfl;have sg:=fun b=>Dr (l:=d) (p:=p) (b:=b) (x:=max (d.getD p 0) (d.getD a 0+1)) hp
  obtain ⟨i1,i2,i3⟩:=JJ (a:=a) ps (d.set p (max (d.getD p 0) (d.getD a 0+1))) fun q hq=>by rw [List.length_set];exact h q (List.mem_cons_of_mem _ hq)
  have ea:(d.set p (max (d.getD p 0) (d.getD a 0+1))).getD a 0=d.getD a 0:=by rw [sg,if_neg fun z=>hpa z.symm]
  rw [e];rw [ea] at i2 i3;refine ⟨fun b=>?_,fun q hq=>?_,fun b=>?_⟩
  ·have:=i1 b;rw [sg b] at this
   by_cases z:b=p
   ·subst z;rw [if_pos rfl] at this;omega
   ·rw [if_neg z] at this;exact this
  ·rcases List.mem_cons.mp hq with rfl | hq
   ·have:=i1 q;rw [sg q,if_pos rfl] at this;omega
   ·exact i2 q hq
  ·rcases i3 b with z | ⟨z,w⟩
   ·by_cases q:b=p
    ·subst q;rw [sg b,if_pos rfl] at z;rcases Nat.le_total (d.getD b 0) (d.getD a 0+1) with le | le
     ·exact .inr ⟨List.mem_cons_self,by rw [z];omega⟩
     ·exact .inl (by rw [z];omega)
    ·rw [sg b,if_neg q] at z;exact .inl z
   ·exact .inr ⟨List.mem_cons_of_mem _ z,w⟩
noncomputable def S (C w:List Nat):Nat->Nat
 | 0=>0
 | k+1=>S C w k+w.getD k 0 * C.getD k 0
theorem Ww (C w:List Nat) {p x:Nat} (hp:p < w.length):∀ k,S C (w.set p (w.getD p 0+x)) k=S C w k+(if p < k then x * C.getD p 0 else 0)
 | 0=>by simp [S]
 | k+1=>by
  unfold S;rw [Ww C w hp k,Dr hp]
  by_cases e:k=p
  ·subst e;rw [if_pos rfl,if_neg (by omega),if_pos (by omega),Nat.add_mul];omega
  ·rw [if_neg e]
   by_cases l:p < k
   ·rw [if_pos l,if_pos (by omega)];omega
   ·rw [if_neg l,if_neg (by omega)];omega
theorem WI (C:List Nat) {a k:Nat}:∀ (ps w:List Nat),(∀ p∈ps,p < w.length/\p≠a/\p < k)->S C (TQ a w ps) k=S C w k+w.getD a 0 * (ps.map fun p=>C.getD p 0).sum
 | [],w,_=>by simp [TQ]
 | p::ps,w,h=>by
  obtain ⟨h1,h2,h3⟩:=h p List.mem_cons_self;have e:TQ a w (p::ps)=TQ a (w.set p (w.getD p 0+w.getD a 0)) ps:=rfl;have ih:=WI C (a:=a) (k:=k) ps (w.set p (w.getD p 0+w.getD a 0)) fun q hq=>by rw [List.length_set];exact h q (List.mem_cons_of_mem _ hq)
  rw [e,ih,Ww C w h1,if_pos h3,Dr h1,if_neg fun z=>h2 z.symm,List.map_cons,List.sum_cons,Nat.mul_add];omega
section
variable {I:Nat} {fs ds:List Dv} {F:List Nd}
theorem VO (hF:BS I fs ds F) (hc:Zx F) (h0:0 < F.length):∀ (k b:Nat),b+k+1=F.length->(Dn F).getD b 0<=(Dn F).getD (F.length - 1) 0
 | k,b,h=>by
  induction k using Nat.strongRecOn generalizing b with
  | ind k ih =>
   by_cases e:k=0
   ·subst e;have:b=F.length - 1:=by omega
    rw [this];exact Nat.le_refl _
   ·obtain ⟨j,y,hy,hm⟩:=hc b (by omega);have hj:=(List.getElem?_eq_some_iff.mp hy).1;have bj:=(hF j y hy).part b hm;have:=ih (F.length - 1 - j) (by omega) j (by omega);have ej:=RZ hF hy;cases y with
    | inp k=>cases hm
    | fix c=>cases hm
    | act d ps =>
     have:(Dn F).getD b 0<=Gw (ps.map fun p=>(Dn F).getD p 0):=IU (List.mem_map.mpr ⟨b,hm,rfl⟩);have e2:(Dn F).getD j 0=1+Gw (ps.map fun p=>(Dn F).getD p 0):=ej;omega
structure FI (F:List Nd) (k:Nat) (d w:List Nat) (many:Nat):Prop where
 ld:d.length=F.length
 lw:w.length=F.length
 sm:many+S (JB F) w k=(JB F).getD (F.length - 1) 0
 up:∀ b < F.length,d.getD b 0+(Dn F).getD b 0<=(Dn F).getD (F.length - 1) 0
 ex:(∃ b < k,d.getD b 0+(Dn F).getD b 0=(Dn F).getD (F.length - 1) 0)\/∃ b < F.length,d.getD b 0=(Dn F).getD (F.length - 1) 0
theorem fE (hF:BS I fs ds F) {k:Nat} (hk:k < F.length) {d w:List Nat} {many:Nat} (h:FI F (k+1) d w many):∃ d' w' many',Dx (.tup (nD F)) (.int (k:Nat)) (.lst (nI d),.lst (nI w),.int (many:Nat))=some (.lst (nI d'),.lst (nI w'),.int (many':Nat))/\FI F k d' w' many':=by
 have hx:=List.getElem?_eq_getElem hk;have ok:=hF k _ hx;have ek:=RZ hF hx;have ck:=ZQ hF hx;have go:Dx (.tup (nD F)) (.int (k:Nat)) (.lst (nI d),.lst (nI w),.int (many:Nat))=(IH (.tup (nD F)) (.int (k:Nat)) (.lst (nI d)) (.lst (nI w)) (.int (many:Nat))).bind fun t=>some (t.1,t.2.1,t.2.2):=rfl
 have leaf:aB (Dn F) F[k]=0->aC (JB F) F[k]=0->FI F k d w many:=fun e1 e2=>by
  rw [e1] at ek;rw [e2] at ck;refine ⟨h.ld,h.lw,?_,h.up,?_⟩
  ·have:=h.sm;unfold S at this;rw [ck] at this;omega
  ·rcases h.ex with ⟨b,hb,z⟩ | z
   ·by_cases q:b=k
    ·subst q;exact .inr ⟨b,hk,by omega⟩
    ·exact .inl ⟨b,by omega,z⟩
   ·exact .inr z
 rw [go];unfold IH;rw [Qg hk];simp only [Option.bind_some,WU,fT];cases q:F[k] with
 | inp c=>rw [q] at leaf;exact ⟨d,w,many,rfl,leaf rfl rfl⟩
 | fix c=>rw [q] at leaf;exact ⟨d,w,many,rfl,leaf rfl rfl⟩
 | act c ps =>
  rw [q] at ok ek ck;have ek':(Dn F).getD k 0=1+Gw (ps.map fun p=>(Dn F).getD p 0):=ek;have ck':(JB F).getD k 0=1+(ps.map fun p=>(JB F).getD p 0).sum:=ck;have e2:AA (Nd.act c ps).dv (.int 2)=some (tI ps):=rfl;have it:items (tI ps)=some (nI ps):=rfl;have ix:AA (.lst (nI w)) (.int (k:Nat))=some (.int (w.getD k 0:Nat)):=Bp (by rw [h.lw];exact hk);have ad:Af (.int (many:Nat)) (.int (w.getD k 0:Nat))=some (.int ((many+w.getD k 0:Nat))):=by rw [BG];congr 1
  have hp:∀ p∈ps,p < k:=ok.2;have f1:=cQ (a:=k) ps d w (by rw [h.ld,h.lw]) (by rw [h.ld];exact hk) fun p hp'=>by rw [h.ld];have:=hp p hp';omega
  obtain ⟨p1,p2,p3⟩:=JJ (a:=k) ps d fun p hp'=>by have:=hp p hp';rw [h.ld];omega
  have up':∀ b < F.length,(Ol k d ps).getD b 0+(Dn F).getD b 0<=(Dn F).getD (F.length - 1) 0:=fun b hb=>by
   rcases p3 b with z | ⟨hm,z⟩
   ·rw [z];exact h.up b hb
   ·have h1:=h.up k hk;have h2:(Dn F).getD b 0<=Gw (ps.map fun p=>(Dn F).getD p 0):=IU (List.mem_map.mpr ⟨b,hm,rfl⟩);omega
  refine ⟨Ol k d ps,TQ k w ps,many+w.getD k 0,?_,?_,?_,?_,up',?_⟩
  ·simp only [if_true,ix,ad,e2,it,Option.bind_some];rw [f1];rfl
  ·rw [MF,h.ld]
  ·rw [ME,h.lw]
  ·have s:=WI (JB F) (a:=k) (k:=k) ps w fun p hp'=>by have:=hp p hp';rw [h.lw];omega
   have:=h.sm;unfold S at this;rw [ck',Nat.mul_add] at this;rw [s];omega
  ·rcases h.ex with ⟨b,hb,z⟩ | ⟨b,hb,z⟩
   ·by_cases q:b=k
    ·subst q;obtain ⟨p,hp',ep⟩:=List.mem_map.mp (FW (l:=ps.map fun p=>(Dn F).getD p 0) (by simpa using (df ok).1));have h1:=p2 p hp';have h2:=up' p (by have:=hp p hp';omega);exact .inl ⟨p,hp p hp',by omega⟩
    ·have h1:=p1 b;have h2:=up' b (by omega);exact .inl ⟨b,by omega,by omega⟩
   ·have h1:=p1 b;have h2:=up' b hb;exact .inr ⟨b,hb,by omega⟩
theorem Jv (hF:BS I fs ds F):∀ (k:Nat) (d w:List Nat) (many:Nat),k<=F.length->FI F k d w many->∃ d' w' many',Ap (Dx (.tup (nD F))) ((List.range k).map fun q=>.int (((k:Int) - 1) - (q:Nat))) (.lst (nI d),.lst (nI w),.int (many:Nat))=some (.lst (nI d'),.lst (nI w'),.int (many':Nat))/\FI F 0 d' w' many'
 | 0,d,w,many,_,h=>⟨d,w,many,rfl,h⟩
 | k+1,d,w,many,hk,h=>by
  obtain ⟨d1,w1,m1,e1,h1⟩:=fE hF (show k < F.length by omega) h;obtain ⟨d2,w2,m2,e2,h2⟩:=Jv hF k d1 w1 m1 (by omega) h1;refine ⟨d2,w2,m2,?_,h2⟩;rw [List.range_succ_eq_map,List.map_cons,List.map_map];have a0:(((k+1:Nat):Int) - 1 - ((0:Nat):Int))=((k:Nat):Int):=by omega
  have af:((fun q:Nat=>Dv.int ((((k+1:Nat):Int) - 1) - (q:Nat)))∘Nat.succ)=fun q:Nat=>Dv.int (((k:Int) - 1) - (q:Nat)):=by
   funext q;simp only [Function.comp];congr 1;omega
  unfold Ap;rw [a0,e1,Option.bind_some,af];exact e2
theorem RC (hF:BS I fs ds F) (hc:Zx F) (h0:0 < F.length) (hF1:F.length<=1000):JM (.tup (nD F))=some (.tup [.int ((Dn F).getD (F.length - 1) 0:Nat),.int ((JB F).getD (F.length - 1) 0:Nat)]):=by
 have l0:An (.tup (nD F))=some (.int (F.length:Nat)):=by show some (Dv.int ((nD F).length:Nat))=_;rw [Dh]
 have mu:Bw (.lst [.int 0]) (.int (F.length:Nat))=some (.lst (nI (List.replicate F.length 0))):=by
  simp only [Bw];rw [if_pos ⟨by simp;omega,by omega,by omega⟩];congr 2;have:∀ n:Nat,(List.replicate n [Dv.int 0]).flatten=nI (List.replicate n 0):=fun n=>by
   induction n with
   | zero=>rfl
   | succ n ih=>rw [List.replicate_succ,List.flatten_cons,ih,List.replicate_succ];rfl
  rw [Int.toNat_natCast];exact this _
 have ng:DW (.int 1)=some (.int (-1)):=rfl;have st:AS (.lst (nI (List.replicate F.length 0))) (.int (-1)) (.int 1)=some (.lst (nI ((List.replicate F.length 0).set (F.length - 1) 1))):=by
  simp only [AS,Jo,Ay,List.length_replicate];rw [if_neg (by omega),if_pos (by omega)];simp only [Option.bind_some];rw [show (-1+(F.length:Int)).toNat=F.length - 1 by omega];simp [nI,List.map_set]
 have sb:Gn (.int (F.length:Nat)) (.int 1)=some (.int ((F.length:Int) - 1)):=rfl;have rg:NM [.int ((F.length:Int) - 1),.int (-1),.int (-1)]=some ((List.range F.length).map fun q=>.int (((F.length:Int) - 1) - (q:Nat))):=by
  simp only [NM];rw [if_pos ⟨trivial,by omega,by omega,by omega,by omega⟩];rw [show ((F.length:Int) - 1 - -1).toNat=F.length by omega]
 have z:∀ b,(List.replicate F.length 0).getD b 0=0:=fun b=>by
  simp only [List.getD,List.getElem?_replicate];split<;>rfl
 have sS:∀ (k:Nat),k<=F.length->S (JB F) ((List.replicate F.length 0).set (F.length - 1) 1) k=if k=F.length then (JB F).getD (F.length - 1) 0 else 0:=fun k=>by
  induction k with
  | zero=>intro _;rw [if_neg (by omega)];rfl
  | succ k ih =>
   intro hk;unfold S;rw [ih (by omega),if_neg (by omega),Dr (by simp;omega)]
   by_cases e:k=F.length - 1
   ·rw [if_pos e,if_pos (by omega),e];omega
   ·rw [if_neg e,if_neg (by omega),z];omega
 have init:FI F F.length (List.replicate F.length 0) ((List.replicate F.length 0).set (F.length - 1) 1) 0:=by
  refine ⟨by simp,by simp,by rw [sS _ (Nat.le_refl _),if_pos rfl];omega,fun b hb=>?_,.inl ⟨F.length - 1,by omega,by rw [z];omega⟩⟩;rw [z];have:=VO hF hc h0 (F.length - 1 - b) b (by omega);omega
 obtain ⟨d,w,many,e,h⟩:=Jv hF F.length _ _ _ (Nat.le_refl _) init;have hm:many=(JB F).getD (F.length - 1) 0:=by have:=h.sm;unfold S at this;omega
 have hd:Gw d=(Dn F).getD (F.length - 1) 0:=by
  obtain ⟨b,hb,eb⟩:∃ b < F.length,d.getD b 0=(Dn F).getD (F.length - 1) 0:=h.ex.elim (fun ⟨b,hb,_⟩=>by omega) id;have h1:d.getD b 0<=Gw d:=IU (getD_mem (by rw [h.ld];exact hb));have hne:d≠[]:=fun q=>by have:=h.ld;rw [q] at this;simp at this;omega
  obtain ⟨i,hi⟩:=List.getElem?_of_mem (FW hne);obtain ⟨hi',ei⟩:=List.getElem?_eq_some_iff.mp hi;have h2:=h.up i (by rw [<- h.ld];exact hi');have h3:d.getD i 0=Gw d:=by rw [<- ei];simp [List.getD,hi']
  omega
 have mxd:FO (.lst (nI d))=some (.int (Gw d:Nat)):=Qm fun q=>by have:=h.ld;rw [q] at this;simp at this;omega
 unfold JM;simp only [l0,Option.bind_some,mu,ng,st,sb,rg];have e':Ap (Dx (.tup (nD F))) ((List.range F.length).map fun q=>.int (((F.length:Int) - 1) - (q:Nat))) (.lst (nI (List.replicate F.length 0)),.lst (nI ((List.replicate F.length 0).set (F.length - 1) 1)),.int 0)=some (.lst (nI d),.lst (nI w),.int (many:Nat)):=e;rw [e'];simp only [Option.bind_some,mxd,hd,hm]
end
theorem Fh (a:Nat):CV (.int (a:Nat)) (.int (a:Nat))=some (.bl true):=by
 have e:=Bl (a:Int) (a:Int)
 have i1:Lr (.int (a:Nat)) (.ty "int")=some (.bl true):=rfl
 have i2:Lr (.int (a:Nat)) (.ty "bool")=some (.bl false):=rfl
 unfold CV HP HQ;simp only [i1,i2,e,Option.bind_some,fV,if_true,Bool.not_false,decide_true]
def gb (n nf:Nat) (ds:List Dv) (w:Dv):Prop:=∃ cs T,Wl n nf ds w cs T
theorem Ot {f:Dv} (hf:Fd f) {fs ds:List Dv} {n:Nat} (h0:0 < n) (h1:n<=1000) (hfs:fs.length<=100) (hds:ds.length<=100) (hd:∀ x∈ds,FG 5 x):∃ w f',DI f (.tup [.tup fs,.tup ds]) (.int (n:Nat))=some (w,f')/\gb n fs.length ds w/\Fd f':=by
 obtain ⟨ts,tbs,f',e,hl,ht,p,hf'⟩:=Kb hf (fs:=fs) (ds:=ds) h0 h1 hfs hds fun x hx=>by
  obtain ⟨a,r,rfl,_,hr⟩:=hd x hx;exact ⟨a,r,rfl,hr⟩
 obtain ⟨cs,rfl,hc⟩:=IB ht;rw [Ay] at hl;exact ⟨_,f',e,⟨cs,tbs,rfl,hl,hc,p⟩,hf'⟩
section
variable {I:Nat} {fs ds:List Dv} (hfs:∀ x∈fs,Tx 10 x) (hfl:fs.length<=100) (hd:∀ x∈ds,FG 5 x) (hdl:ds.length<=100) (pw:ds.Pairwise (fun x y=>FR x≠FR y)) (hI:I<=100) (hI0:fs.length=0->0 < I)
include hfs hfl hd hdl hI hI0
theorem bz {f:Dv} (hf:Fd f) {x:Dv} {L:List Dv} (hL:∀ y∈L,Lx I fs ds y) (hl:L.length<=100):∃ f' y,En (.tup [.tup fs,.tup ds]) (.int (I:Nat)) x (f,.lst L)=some (f',.lst (L++[y]))/\Lx I fs ds y/\Fd f':=by
 obtain ⟨x1,f1,e1,h1,hf1⟩:=Ny (I:=I) hfs hd (by omega) hf hfl hI hI0 (many:=20) (by decide) (by decide);have e1':Er f (.tup [.tup fs,.tup ds]) (.int (I:Nat)) (.int 20)=some (x1,f1):=e1;have s:∃ y f',Kq (.tup [.tup fs,.tup ds]) (.int (I:Nat)) x1 f1=some (f',y)/\Lx I fs ds y/\Fd f':=by
  obtain ⟨r,f2,e2,b2,hf2⟩:=AF hf1 (n:=2) (by decide) (by decide);unfold Kq;simp only [e2,Option.bind_some,Bl]
  by_cases h:(r:Int)=0
  ·obtain ⟨r3,f3,e3,b3,hf3⟩:=AF hf2 (n:=20) (by decide) (by decide);obtain ⟨x4,f4,e4,h4,hf4⟩:=Lg (I:=I) hfs hd (by omega) hf3 hfl hI0 (many:=r3) (by omega);simp only [h,decide_true,if_true,e3,Option.bind_some,e4];exact ⟨x4,f4,rfl,h4,hf4⟩
  ·simp only [h,decide_false,Bool.false_eq_true,if_false];exact ⟨x1,f2,rfl,h1,hf2⟩
 obtain ⟨y,f2,e2,h2,hf2⟩:=s;refine ⟨f2,y,?_,h2,hf2⟩;unfold En;simp only [e1',Option.bind_some,e2,DT,DA (show L.length<=1000000 by omega)]
include pw
theorem bx {f:Dv} (hf:Fd f) {x:Dv} (hx:Lx I fs ds x) {k:Nat} (hk:k < 2):∃ f',II (.tup [.tup fs,.tup ds]) (.int (I:Nat)) x (.int (k:Nat)) f=some (.go f')/\Fd f':=by
 obtain ⟨F,rfl,hF,hc,F0,Fl⟩:=hx;obtain ⟨r1,f1,e1,b1,hf1⟩:=AF hf (n:=8) (by decide) (by decide);have m:∀ x∈[(Dv.int 12),(Dv.int 4),(Dv.int 4),(Dv.int 40),(Dv.int 4),(Dv.int 4),(Dv.int 4),(Dv.int 4)],∃ k:Nat,x=.int (k:Nat)/\0 < k/\k<=40:=by
  intro x hx;simp only [List.mem_cons,List.not_mem_nil,or_false] at hx;rcases hx with rfl | rfl | rfl | rfl | rfl | rfl | rfl | rfl
  all_goals first | exact ⟨12,rfl,by decide,by decide⟩ | exact ⟨4,rfl,by decide,by decide⟩ | exact ⟨40,rfl,by decide,by decide⟩
 obtain ⟨y,hy,ey⟩:=Mw (xs:=[(Dv.int 12),(Dv.int 4),(Dv.int 4),(Dv.int 40),(Dv.int 4),(Dv.int 4),(Dv.int 4),(Dv.int 4)]) (i:=r1) (by omega) b1;obtain ⟨mo,rfl,mo0,mo1⟩:=m y hy;obtain ⟨r2,f2,e2,b2,hf2⟩:=AF hf1 (n:=((mo:Nat):Int)) (by omega) (by omega);have oa:Af (.int 1) (.int (r2:Nat))=some (.int ((1+r2:Nat))):=by rw [BG];congr 1
 obtain ⟨w,f3,e3,⟨cs,T,W⟩,hf3⟩:=Ot hf2 (fs:=fs) (ds:=ds) (n:=1+r2) (by omega) (by omega) hfl hdl hd;obtain ⟨ts,f4,e4,l4,h4,hf4⟩:=Bn (Ku w) Fd (fun d=>∃ r:Nat,d=.int r/\r < 1+r2) ((List.range I).map fun k=>.int (k:Nat)) f3 hf3 fun x _ c hc=>by
  obtain ⟨r,f',e,b,hf'⟩:=AF hc (n:=((1+r2:Nat):Int)) (by omega) (by omega);exact ⟨.int r,f',by unfold Ku;simp only [W.w0,Option.bind_some,e],⟨r,rfl,by omega⟩,hf'⟩
 obtain ⟨ins,rfl,hins⟩:=IB h4;rw [Ay] at l4;have li:ins.length=I:=by simpa using l4
 have hin:∀ inp,(inp=tI ins\/inp=.lst (nI ins))->∀ k < I,AA inp (.int (k:Nat))=some (.int (ins.getD k 0:Nat))/\ins.getD k 0 < 1+r2:=fun inp hi k hk=>by
  have hk':k < ins.length:=by omega
  refine ⟨?_,hins _ (getD_mem hk')⟩;rcases hi with rfl | rfl
  ·exact Bp hk'
  ·exact Bp hk'
 obtain ⟨z,hz,ez⟩:=Mw (xs:=[tI ins,.lst (nI ins)]) (i:=k) (by omega) (by show (k:Int) < 2;omega);have hz':z=tI ins\/z=.lst (nI ins):=by simpa using hz
 obtain ⟨v1,v2⟩:=Kc hfs hd (by omega) pw W (hin z hz') hF F0 (by omega);obtain ⟨ex,t1,_,_⟩:=Kj hfs hd (by omega) pw W (fun k hk=>by omega) hF (by omega) rfl v2 (F.length - 1) 200 [] (by omega) (by omega) (by simp) (by simp);have t1':Ao 200 (.tup [.tup fs,.tup ds]) w (.tup (nI ins)) (.tup (nD F)) (.int ((F.length - 1:Nat))) (.dct [] [])=some (.int ((Dq fs ds cs ins T F).getD (F.length - 1) 0:Nat),kn (Dq fs ds cs ins T F) ([]++ex)):=t1;have i0:AA (.tup [.tup (nD F),.int ((F.length - 1:Nat))]) (.int 0)=some (.tup (nD F)):=rfl;have i1:AA (.tup [.tup (nD F),.int ((F.length - 1:Nat))]) (.int 1)=some (.int ((F.length - 1:Nat))):=rfl;have al:KZ (.tup (nI ins))=some (.lst (nI ins)):=rfl;have ez':AA (.lst [.tup (nI ins),.lst (nI ins)]) (.int (k:Nat))=some z:=ez;refine ⟨f4,?_,hf4⟩;unfold II;simp only [e1,Option.bind_some,ey,e2,oa,e3,NL I (show I<=1000000 by omega)];rw [Aq (by simp;omega),e4];simp only [Option.bind_some,AZ,i0,i1,t1',al,ez',v1,Fh,bu,cond_true,TF,Bool.not_true,Bool.false_eq_true,if_false]
theorem Ym {f:Dv} (hf:Fd f) {x:Dv} (hx:Lx I fs ds x):∃ f',Kv (.tup [.tup fs,.tup ds]) (.int (I:Nat)) x f=some (.go f')/\Fd f':=by
 have r2:=NL 2 (by decide);have r2':Bd [.int 2]=some [.int (0:Nat),.int (1:Nat)]:=r2;obtain ⟨f1,e1,hf1⟩:=bx hfs hfl hd hdl pw hI hI0 hf hx (k:=0) (by decide);obtain ⟨f2,e2,hf2⟩:=bx hfs hfl hd hdl pw hI hI0 hf1 hx (k:=1) (by decide);obtain ⟨F,rfl,hF,hc,F0,Fl⟩:=hx;have lp:Jt (II (.tup [.tup fs,.tup ds]) (.int (I:Nat)) (.tup [.tup (nD F),.int ((F.length - 1:Nat))])) [.int (0:Nat),.int (1:Nat)] f=some (.go f2):=by
  simp only [Jt,e1,e2,Option.bind_some]
 have i0:AA (.tup [.tup (nD F),.int ((F.length - 1:Nat))]) (.int 0)=some (.tup (nD F)):=rfl;have fr:=RC hF hc F0 (by omega);have dp:=Lb hF F0 (by omega);have dd:=Ld hF F0 (by omega);refine ⟨f2,?_,hf2⟩;unfold Kv;rw [r2',Option.bind_some,lp];simp only [Option.bind_some,Rs.el,i0,fr];rw [Kd];unfold Pf;simp only [dp,dd,Fh,Option.bind_some,bu,cond_true,TF,Bool.not_true,Bool.false_eq_true,if_false]
end
theorem Qq (ns:List Int) (h:ns.length<=63):one Te [Dv.scr ns]=some (Dv.bl true):=by
 show Te (Dv.scr ns)=_;obtain ⟨f0,e0,hf0⟩:=Hh (ns:=ns) (k:=0);obtain ⟨fs,ds,f1,e1,lf,hfs,ld,hd,pw,hf1⟩:=Kr hf0;obtain ⟨r2,f2,e2,b2,hf2⟩:=AF hf1 (n:=4) (by decide) (by decide);have i0:AA (.tup [.tup fs,.tup ds]) (.int 0)=some (.tup fs):=rfl;have l0:An (.tup fs)=some (.int (fs.length:Nat)):=rfl;have mx:∃ (d6:Dv) (I:Nat),(Do (.int (fs.length:Nat)) (.int 0)).bind (fun b=>EU (.bl b))=some d6/\Cc (.int (r2:Nat)) d6=some (.int (I:Nat))/\I<=100/\(fs.length=0->0 < I):=by
  rw [Bl];simp only [Option.bind_some,EU,Cc]
  by_cases h:(fs.length:Int)=0
  ·simp only [h,decide_true,if_true]
   by_cases h2:(1:Int) > (r2:Nat)
   ·exact ⟨_,1,rfl,by show some (Dv.int (if _ then _ else _))=_;rw [if_pos h2];rfl,by omega,fun _=>by omega⟩
   ·exact ⟨_,r2,rfl,by show some (Dv.int (if _ then _ else _))=_;rw [if_neg h2],by omega,fun _=>by omega⟩
  ·simp only [h,decide_false,Bool.false_eq_true,if_false];exact ⟨_,r2,rfl,by show some (Dv.int (if (0:Int) > (r2:Nat) then _ else _))=_;rw [if_neg (by omega)],by omega,fun z=>by omega⟩
 obtain ⟨d6,I,m1,m2,hI,hI0⟩:=mx;obtain ⟨b5,q1,q2⟩:=Option.bind_eq_some_iff.mp m1;obtain ⟨g1,x1,a1,h1,hg1⟩:=bz hfs (by omega) hd (by omega) hI hI0 hf2 (x:=.int (0:Nat)) (L:=[]) (by simp) (by simp);obtain ⟨g2,x2,a2,h2,hg2⟩:=bz hfs (by omega) hd (by omega) hI hI0 hg1 (x:=.int (1:Nat)) (L:=[x1]) (by simpa using h1) (by simp);have r2':Bd [.int 2]=some [.int (0:Nat),.int (1:Nat)]:=NL 2 (by decide);have lp:Ap (En (.tup [.tup fs,.tup ds]) (.int (I:Nat))) [.int (0:Nat),.int (1:Nat)] (f2,.lst [])=some (g2,.lst [x1,x2]):=by
  have a1':En (.tup [.tup fs,.tup ds]) (.int (I:Nat)) (.int (0:Nat)) (f2,.lst [])=some (g1,.lst [x1]):=a1;have a2':En (.tup [.tup fs,.tup ds]) (.int (I:Nat)) (.int (1:Nat)) (g1,.lst [x1])=some (g2,.lst [x1,x2]):=a2;simp only [Ap,a1',a2',Option.bind_some]
 obtain ⟨f3,e3,hf3⟩:=Hh (ns:=ns) (k:=1);have sl:KU (.lst [x1,x2]) none (some 1)=some (.lst [x1]):=rfl;have ad:Af (.lst [x1,x2]) (.lst [x1])=some (.lst [x1,x2,x1]):=rfl;have it:items (.lst [x1,x2,x1])=some [x1,x2,x1]:=rfl;obtain ⟨k1,c1,hk1⟩:=Ym hfs (by omega) hd (by omega) pw hI hI0 hf3 h1;obtain ⟨k2,c2,hk2⟩:=Ym hfs (by omega) hd (by omega) pw hI hI0 hk1 h2;obtain ⟨k3,c3,hk3⟩:=Ym hfs (by omega) hd (by omega) pw hI hI0 hk2 h1;have e0':Co (.scr ns) (.int 0)=some f0:=e0;have e3':Co (.scr ns) (.int 1)=some f3:=e3;have e2':AK f1 (.int 4)=some (.int (r2:Nat),f2):=e2;unfold Te;simp only [e0',e1,e2',i0,l0,q1,q2,m2,r2',Option.bind_some];rw [lp];simp only [Option.bind_some,e3',sl,ad,it,Jt,c1,c2,c3,Rs.el]
theorem OY:Ak "table_in" (top 1):=Zm (by kernel_rfl) fun _ _ _ _ _ _ _ _ _=>by kernel_rfl
theorem Zl:Ak "done" (top 2):=SU (by kernel_rfl) fun _ _ _ _ _ _ _ _ _ _=>by kernel_rfl
theorem OZ:Ak "fixed_in" (top 3):=Zm (by kernel_rfl) fun _ _ _ _ _ _ _ _ _=>by kernel_rfl
theorem KO:Ak "node_value" (top 6):=fS (by kernel_rfl) fun _ _ _ _ _ _ _ _ _ _ _=>by kernel_rfl
theorem Vl:Ak "value" (top 5):=SU (by kernel_rfl) fun _ _ _ _ _ _ _ _ _ _=>by kernel_rfl
theorem Vp:Ak "depth" (top 7):=SW (by kernel_rfl) fun _ _ _ _ _ _ _=>by kernel_rfl
theorem HB:Ak "deeds_by_node" (top 9):=SW (by kernel_rfl) fun _ _ _ _ _ _ _=>by kernel_rfl
theorem Vq:Ak "deeds" (top 8):=SW (by kernel_rfl) fun _ _ _ _ _ _ _=>by kernel_rfl
theorem Vo:Ak "_law_feed" (top 11):=SV (by kernel_rfl) fun _ _ _ _ _ _ _ _=>by kernel_rfl
theorem Vm:Ak "_law_take" (top 12):=SV (by kernel_rfl) fun _ _ _ _ _ _ _ _=>by kernel_rfl
theorem SQ:Ak "_law_names" (top 13):=SV (by kernel_rfl) fun _ _ _ _ _ _ _ _=>by kernel_rfl
theorem SO:Ak "_law_shape" (top 14):=SW (by kernel_rfl) fun _ _ _ _ _ _ _=>by kernel_rfl
theorem SL:Ak "_law_world" (top 15):=Zm (by kernel_rfl) fun _ _ _ _ _ _ _ _ _=>by kernel_rfl
theorem Ln:Ak "_law_ordered" (top 16):=SV (by kernel_rfl) fun _ _ _ _ _ _ _ _=>by kernel_rfl
theorem Vn:Ak "_law_form" (top 17):=SU (by kernel_rfl) fun _ _ _ _ _ _ _ _ _ _=>by kernel_rfl
theorem SS:Ak "_law_acted" (top 18):=SU (by kernel_rfl) fun _ _ _ _ _ _ _ _ _ _=>by kernel_rfl
theorem SR:Ak "_law_chain" (top 19):=SU (by kernel_rfl) fun _ _ _ _ _ _ _ _ _ _=>by kernel_rfl
theorem SN:Ak "_law_tells" (top 20):=fR (by kernel_rfl) fun _ _ _ _ _ _ _ _ _ _ _ _=>by kernel_rfl
theorem Zk:Ak "_law_far" (top 21):=SW (by kernel_rfl) fun _ _ _ _ _ _ _=>by kernel_rfl
theorem SM:Ak "_law_whole" (top 22):=SV (by kernel_rfl) fun _ _ _ _ _ _ _ _=>by kernel_rfl
theorem all_mk {l:W.OpenLaw} {w:World} {K:W.Frag} {h:Heap} {mg:Str->Option Value} {fa:Addr} (X:K.In h) (G:h.Ns mainGlobals mg) (hfa:mg "law" = some (.ref fa)) (hz:md.bl.all (LH K)=true)
    (hsTableIn:GF K "table_in" (top 1))
    (hsDone:GF K "done" (top 2))
    (hsFixedIn:GF K "fixed_in" (top 3))
    (hsNodeValue:GF K "node_value" (top 6))
    (hsValue:GF K "value" (top 5))
    (hsDepth:GF K "depth" (top 7))
    (hsDeedsByNode:GF K "deeds_by_node" (top 9))
    (hsDeeds:GF K "deeds" (top 8))
    (hsLFeed:GF K "_law_feed" (top 11))
    (hsLTake:GF K "_law_take" (top 12))
    (hsLNames:GF K "_law_names" (top 13))
    (hsLShape:GF K "_law_shape" (top 14))
    (hsLWorld:GF K "_law_world" (top 15))
    (hsLOrdered:GF K "_law_ordered" (top 16))
    (hsLForm:GF K "_law_form" (top 17))
    (hsLActed:GF K "_law_acted" (top 18))
    (hsLChain:GF K "_law_chain" (top 19))
    (hsLTells:GF K "_law_tells" (top 20))
    (hsLFar:GF K "_law_far" (top 21))
    (hsLWhole:GF K "_law_whole" (top 22))
    (hsLaw:GF K "law" (top 23))
    : ∃ fd:FuncData,(∀ (s:Shared) (v:Value),BindsTo s fd ⟨[v],[]⟩ [("_law_script", v)])/\∀ base:Heap,K.In base->base.Ns mainGlobals mg->FnOk l.prog w K mg base Oj 221 fa fd ["_law_script"] (MG K):=by
  have e:=hfa.symm.trans (W.mg_of X G hsLaw.1);cases e;have b:Bs md K mg:=dJ X G rfl hz
  refine ⟨W.fnOf "law" "law" (Ae (top 23)) (AR (top 23)) (AG (top 23)) .none .none .none (YB K (OA K "law")) none (VS K (OA K "law")) .none,fun s v=>.of_eq rfl,fun base _ _=>?_⟩
  have f0:Fs l.prog w K mg base 0 eB:=Fs.nil;have f1:Fs l.prog w K mg base 1 eA:=f0.def b OK OB hsTableIn (W.mg_of X G hsTableIn.1) OY;have f2:Fs l.prog w K mg base 2 dz:=f1.def b ZP ZK hsDone (W.mg_of X G hsDone.1) Zl;have f3:Fs l.prog w K mg base 3 dw:=f2.def b OL OC hsFixedIn (W.mg_of X G hsFixedIn.1) OZ;have f4:Fs l.prog w K mg base 4 du:=f3.def b KH Jy hsNodeValue (W.mg_of X G hsNodeValue.1) KO;have f5:Fs l.prog w K mg base 5 dr:=f4.def b VH Uw hsValue (W.mg_of X G hsValue.1) Vl;have f6:Fs l.prog w K mg base 6 dq:=f5.def b VM VA hsDepth (W.mg_of X G hsDepth.1) Vp;have f7:Fs l.prog w K mg base 7 dk:=f6.def b Gz Gy hsDeedsByNode (W.mg_of X G hsDeedsByNode.1) HB;have f8:Fs l.prog w K mg base 8 di:=f7.def b VN VB hsDeeds (W.mg_of X G hsDeeds.1) Vq;have f9:Fs l.prog w K mg base 9 dh:=f8.def b VL Uz hsLFeed (W.mg_of X G hsLFeed.1) Vo;have f10:Fs l.prog w K mg base 10 Uv:=f9.def b VI Ux hsLTake (W.mg_of X G hsLTake.1) Vm;have f11:Fs l.prog w K mg base 11 Uu:=f10.def b Rj RU hsLNames (W.mg_of X G hsLNames.1) SQ;have f12:Fs l.prog w K mg base 12 Ut:=f11.def b Ri RS hsLShape (W.mg_of X G hsLShape.1) SO;have f13:Fs l.prog w K mg base 13 Us:=f12.def b Rf RO hsLWorld (W.mg_of X G hsLWorld.1) SL;have f14:Fs l.prog w K mg base 14 Ur:=f13.def b Lf LX hsLOrdered (W.mg_of X G hsLOrdered.1) Ln;have f15:Fs l.prog w K mg base 15 Uq:=f14.def b VJ Uy hsLForm (W.mg_of X G hsLForm.1) Vn;have f16:Fs l.prog w K mg base 16 Up:=f15.def b Rl RW hsLActed (W.mg_of X G hsLActed.1) SS;have f17:Fs l.prog w K mg base 17 Uo:=f16.def b Rk RV hsLChain (W.mg_of X G hsLChain.1) SR;have f18:Fs l.prog w K mg base 218 Um:=f17.defR (io:=[5]) (F:=fun n=>XW (Ao n)) b (by kernel_rfl) (fun ds=>eZ ds) Rh RQ hsLTells (W.mg_of X G hsLTells.1) SN 200;have f19:Fs l.prog w K mg base 219 Ul:=f18.def b ZO ZJ hsLFar (W.mg_of X G hsLFar.1) Zk;have f20:Fs l.prog w K mg base 220 ZF:=f19.def b Rg RP hsLWhole (W.mg_of X G hsLWhole.1) SM
  have hp:AC (top 23)=(["_law_script"]:List Str):=by kernel_rfl
  have r:=Yk (ps:=AC (top 23)) (nb:=true) (by rw [hp];rfl) (Lc b f20 cn cf (LP hsLaw)) Qq;rw [hp] at r;exact r
theorem walk {l:W.OpenLaw} {q:Program} {loose:List Str} {XP:(Str->Option Value)->Heap->Prop} {YP:World->Heap->Prop} {d:DefRec} {K:Params->W.Frag} (hn:l.most=some 63) (hdf:d.params.defaults=[])
    (hY:∀ (w:World) (h:Heap),YP w h->(K w.params).In h)
    (F:∀ (w:World) (mg:Str->Option Value) (fa:Addr) (h:Heap),(K w.params).In h->h.Ns mainGlobals mg->mg d.name=some (.ref fa) ->
      ∃ fd:FuncData,(∀ (s:Shared) (u:Value),BindsTo s fd ⟨[u],[]⟩ [("_law_script", u)])/\∀ base:Heap,(K w.params).In base->base.Ns mainGlobals mg->FnOk l.prog w (K w.params) mg base Oj 221 fa fd ["_law_script"] (MG (K w.params))) :
    W.WalkO q loose XP YP l.row.toRowW d [] (fun f vs=>PySem.call f vs):=
  L2.walk_of (n:=63) (k:=221) (x := "_law_script") (CX:=fun _=>Oj) (sp:=fun w=>MG (K w.params)) hn (by decide) hdf ⟨rfl,by decide,by decide,rfl⟩ hY F (fun _ _ a ns hl hO hS=>⟨a,ns,rfl,hS,hl,hO,fun _=>rfl⟩) fun _ _ _ _ _ z=>z
abbrev fO (i:Nat) (x:Str) (pm:Value) (cd:Addr):Obj:=⟨.type "function", none,.func (W.fnOf x x (Ae (top i)) (AR (top i)) (AG (top i)) .none .none .none pm none (.ref cd) .none),#[]⟩
noncomputable def KP (P:Params):W.Frag:=[
(3,⟨.type "dict", none,.dict #[ke P "__name__" 165 (.str "law_shapefree_k23_what_forms_tell" 255),ke P "__doc__" 166 .none,ke P "__package__" 167 .none,ke P "__loader__" 168 (.builtin "__main__.__loader__#opaque"),ke P "__spec__" 169 .none,ke P "__annotations__" 170 (.ref 6),ke P "__builtins__" 171 (.ref 4),ke P "__file__" 173 (.str "/claim/cut.py" 172),ke P "__cached__" 174 .none,ke P "table_in" 194 (.ref 19),ke P "done" 206 (.ref 26),ke P "fixed_in" 215 (.ref 33),ke P "value" 229 (.ref 40),ke P "node_value" 235 (.ref 45),ke P "depth" 241 (.ref 50),ke P "deeds" 248 (.ref 57),ke P "deeds_by_node" 254 (.ref 62),ke P "_law_feed" 266 (.ref 69),ke P "_law_take" 276 (.ref 76),ke P "_law_names" 282 (.ref 81),ke P "_law_shape" 288 (.ref 86),ke P "_law_world" 294 (.ref 91),ke P "_law_ordered" 300 (.ref 96),ke P "_law_form" 306 (.ref 101),ke P "_law_acted" 312 (.ref 106),ke P "_law_chain" 326 (.ref 113),ke P "_law_tells" 332 (.ref 118),ke P "_law_far" 344 (.ref 125),ke P "_law_whole" 352 (.ref 132),ke P "law" 358 (.ref 137)] 30,#[]⟩),
(19,fO 1 "table_in" (.str "shapefree.worlds" 187) 18),
(18,cO "table_in" 189 2 3 3 15 16 .none .none .none 17 192),
(26,fO 2 "done" (.str "shapefree.worlds" 187) 25),
(25,cO "done" 195 4 4 3 20 21 .none (.ref 22) (.ref 23) 24 204),
(33,fO 3 "fixed_in" (.str "shapefree.worlds" 187) 32),
(32,cO "fixed_in" 207 9 3 3 27 28 .none (.ref 29) (.ref 30) 31 213),
(40,fO 5 "value" (.str "shapefree.plain" 216) 39),
(39,cO "value" 218 12 4 3 34 35 .none (.ref 36) (.ref 37) 38 227),
(45,fO 6 "node_value" (.str "shapefree.plain" 216) 44),
(44,cO "node_value" 230 17 5 3 41 42 .none .none .none 43 233),
(50,fO 7 "depth" (.str "shapefree.plain" 216) 49),
(49,cO "depth" 236 23 1 3 46 47 .none .none .none 48 239),
(57,fO 8 "deeds" (.str "shapefree.plain" 216) 56),
(56,cO "deeds" 242 28 1 3 51 52 .none (.ref 53) (.ref 54) 55 246),
(62,fO 9 "deeds_by_node" (.str "shapefree.plain" 216) 61),
(61,cO "deeds_by_node" 249 30 1 3 58 59 .none .none .none 60 252),
(69,fO 11 "_law_feed" (.str "law_shapefree_k23_what_forms_tell" 255) 68),
(68,cO "_law_feed" 257 36 2 3 63 64 .none (.ref 65) (.ref 66) 67 264),
(76,fO 12 "_law_take" (.str "law_shapefree_k23_what_forms_tell" 255) 75),
(75,cO "_law_take" 267 46 2 3 70 71 .none (.ref 72) (.ref 73) 74 274),
(81,fO 13 "_law_names" (.str "law_shapefree_k23_what_forms_tell" 255) 80),
(80,cO "_law_names" 277 54 2 3 77 78 .none .none .none 79 280),
(86,fO 14 "_law_shape" (.str "law_shapefree_k23_what_forms_tell" 255) 85),
(85,cO "_law_shape" 283 69 1 3 82 83 .none .none .none 84 286),
(91,fO 15 "_law_world" (.str "law_shapefree_k23_what_forms_tell" 255) 90),
(90,cO "_law_world" 289 75 3 3 87 88 .none .none .none 89 292),
(96,fO 16 "_law_ordered" (.str "law_shapefree_k23_what_forms_tell" 255) 95),
(95,cO "_law_ordered" 295 84 2 3 92 93 .none .none .none 94 298),
(101,fO 17 "_law_form" (.str "law_shapefree_k23_what_forms_tell" 255) 100),
(100,cO "_law_form" 301 103 4 3 97 98 .none .none .none 99 304),
(106,fO 18 "_law_acted" (.str "law_shapefree_k23_what_forms_tell" 255) 105),
(105,cO "_law_acted" 307 116 4 3 102 103 .none .none .none 104 310),
(113,fO 19 "_law_chain" (.str "law_shapefree_k23_what_forms_tell" 255) 112),
(112,cO "_law_chain" 313 122 4 3 107 108 .none (.ref 109) (.ref 110) 111 324),
(118,fO 20 "_law_tells" (.str "law_shapefree_k23_what_forms_tell" 255) 117),
(117,cO "_law_tells" 327 131 6 3 114 115 .none .none .none 116 330),
(125,fO 21 "_law_far" (.str "law_shapefree_k23_what_forms_tell" 255) 124),
(124,cO "_law_far" 333 142 1 3 119 120 .none (.ref 121) (.ref 122) 123 342),
(132,fO 22 "_law_whole" (.str "law_shapefree_k23_what_forms_tell" 255) 131),
(131,cO "_law_whole" 345 154 2 3 126 127 .none (.ref 128) (.ref 129) 130 350),
(137,fO 23 "law" (.str "law_shapefree_k23_what_forms_tell" 255) 136),
(136,cO "law" 353 156 1 3 133 134 .none .none .none 135 356)]
def dLaw:DefRec:=⟨"law", Ae (top 23),AR (top 23),AG (top 23),ZN (top 23)⟩
theorem top_left:WB PySem.Challenge.rw_shapefree_k23_what_forms_tell 24 [3,19,18,26,25,33,32,40,39,45,44,50,49,57,56,62,61,69,68,76,75,81,80,86,85,91,90,96,95,101,100,106,105,113,112,118,117,125,124,132,131,137,136] KP 1388:=fun w=>by kernel_rfl
theorem top_said:PySem.Challenge.rw_shapefree_k23_what_forms_tell.wellSaid=true:=by decide +kernel
end My
set_option maxHeartbeats 1000000
set_option maxHeartbeats 1000000
set_option maxHeartbeats 1000000
set_option maxHeartbeats 1000000
set_option maxHeartbeats 1000000
set_option maxHeartbeats 1000000
set_option maxHeartbeats 1000000
set_option maxHeartbeats 1000000
set_option maxHeartbeats 1000000
set_option maxHeartbeats 1000000
open PySem PySem.W PyProof.Rows
set_option maxRecDepth 100000 in
set_option maxHeartbeats 0 in
theorem PySem.Challenge.cw_shapefree_k23_what_forms_tell_holds : PySem.Challenge.rw_shapefree_k23_what_forms_tell.Holds := by
  refine L2.mk_law (d:=My.dLaw) My.top_said My.top_left (fun P=>by kernel_rfl) (by kernel_rfl) (by kernel_rfl) (by kernel_rfl) (by kernel_rfl) (by kernel_rfl) (by decide +kernel) ⟨rfl,rfl,rfl,rfl,rfl,by decide +kernel⟩ (by w_witness2) ?call
  refine My.walk (l:=PySem.Challenge.rw_shapefree_k23_what_forms_tell) (d:=My.dLaw) (K:=My.KP) rfl (by kernel_rfl) (fun w h Y=>Y) fun w mg fa h KX G hmg=>My.all_mk KX G hmg (by kernel_rfl) ⟨by kernel_rfl,by kernel_rfl,by kernel_rfl,by kernel_rfl⟩ ⟨by kernel_rfl,by kernel_rfl,by kernel_rfl,by kernel_rfl⟩ ⟨by kernel_rfl,by kernel_rfl,by kernel_rfl,by kernel_rfl⟩ ⟨by kernel_rfl,by kernel_rfl,by kernel_rfl,by kernel_rfl⟩ ⟨by kernel_rfl,by kernel_rfl,by kernel_rfl,by kernel_rfl⟩ ⟨by kernel_rfl,by kernel_rfl,by kernel_rfl,by kernel_rfl⟩ ⟨by kernel_rfl,by kernel_rfl,by kernel_rfl,by kernel_rfl⟩ ⟨by kernel_rfl,by kernel_rfl,by kernel_rfl,by kernel_rfl⟩ ⟨by kernel_rfl,by kernel_rfl,by kernel_rfl,by kernel_rfl⟩ ⟨by kernel_rfl,by kernel_rfl,by kernel_rfl,by kernel_rfl⟩ ⟨by kernel_rfl,by kernel_rfl,by kernel_rfl,by kernel_rfl⟩ ⟨by kernel_rfl,by kernel_rfl,by kernel_rfl,by kernel_rfl⟩ ⟨by kernel_rfl,by kernel_rfl,by kernel_rfl,by kernel_rfl⟩ ⟨by kernel_rfl,by kernel_rfl,by kernel_rfl,by kernel_rfl⟩ ⟨by kernel_rfl,by kernel_rfl,by kernel_rfl,by kernel_rfl⟩ ⟨by kernel_rfl,by kernel_rfl,by kernel_rfl,by kernel_rfl⟩ ⟨by kernel_rfl,by kernel_rfl,by kernel_rfl,by kernel_rfl⟩ ⟨by kernel_rfl,by kernel_rfl,by kernel_rfl,by kernel_rfl⟩ ⟨by kernel_rfl,by kernel_rfl,by kernel_rfl,by kernel_rfl⟩ ⟨by kernel_rfl,by kernel_rfl,by kernel_rfl,by kernel_rfl⟩ ⟨by kernel_rfl,by kernel_rfl,by kernel_rfl,by kernel_rfl⟩
