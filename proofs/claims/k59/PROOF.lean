import PyProof.Rows.All
import Wide.All
import OpenK.AllK
import Wide.FinOn
import PyProof.ZipIter
import PyProof.EnumMake
import PyProof.Draws
import KE.KRevIter
import PyProof.Rows.SetFrom
import PyProof.WalksMore
import PyProof.FactsAll.subtypes_4
import PyProof.ReprRoads
import PyProof.ReprLen
import PyProof.IsRules
import PyProof.ListMulRoad
import PyProof.StrLawsIn
import Lean
import PyProof.EqAt
import PyProof.EqKinds
import PyProof.TupleCall
import PySem.Challenge.RW_shapefree_k59_moves
noncomputable section
set_option Elab.async false
set_option linter.all false
set_option maxRecDepth 100000
set_option maxHeartbeats 4000000
namespace L2
open PySem PySem.Spec PyProof.Rows
noncomputable abbrev Qa:=Sum Int Str
def fI:Qa->Value->Bool
 | .inl k,v=>Value.isInt k v
 | .inr x,v=>Value.isStrOf x v
def pB (w:World):Qa->Int
 | .inl k=>hashInt k
 | .inr x=>hashStr w x
theorem Bu:∀ {k:Qa} {v:Value},fI k v=true->(∃ i t,k=Sum.inl i/\v=Value.int i t)\/(∃ x t,k=Sum.inr x/\v=Value.str x t)
 | .inl i,v,h=>by
  obtain ⟨t,e⟩:=Value.isInt_shape (k:=i) (v:=v) h;exact .inl ⟨i,t,rfl,e⟩
 | .inr x,v,h=>by
  obtain ⟨t,e⟩:=Value.isStrOf_shape (x:=x) (v:=v) h;exact .inr ⟨x,t,rfl,e⟩
theorem jL (a b:Int):decide ((Sum.inl a:Qa)=Sum.inl b)=(a == b):=by
 by_cases e:a=b
 ·subst e;simp
 ·have h:¬ (Sum.inl a:Qa)=Sum.inl b:=fun q=>e (Sum.inl.inj q)
  rw [decide_eq_false h];exact (beq_eq_false_iff_ne.mpr e).symm
theorem jI (a b:Str):decide ((Sum.inr a:Qa)=Sum.inr b)=decide (a=b):=by
 by_cases e:a=b
 ·subst e;simp
 ·have h:¬ (Sum.inr a:Qa)=Sum.inr b:=fun q=>e (Sum.inr.inj q)
  rw [decide_eq_false h,decide_eq_false e]
theorem jK (a:Int) (b:Str):decide ((Sum.inl a:Qa)=Sum.inr b)=false:=decide_eq_false (fun q=>nomatch q)
theorem jJ (a:Str) (b:Int):decide ((Sum.inr a:Qa)=Sum.inl b)=false:=decide_eq_false (fun q=>nomatch q)
def PY (prog:Program) (w:World):PySem.KeyKind prog w Qa where
 is:=fI
 hash:=pB w
 inj:=fun v a b ha hb=>by
  rcases Bu ha with ⟨i,t,rfl,rfl⟩ | ⟨x,t,rfl,rfl⟩
  ·rcases Bu hb with ⟨j,u,rfl,e⟩ | ⟨y,u,rfl,e⟩
   ·injection e with e1 _;rw [e1]
   ·exact nomatch e
  ·rcases Bu hb with ⟨j,u,rfl,e⟩ | ⟨y,u,rfl,e⟩
   ·exact nomatch e
   ·injection e with e1 _;rw [e1]
 byValue:=fun k v h=>by
  rcases Bu h with ⟨i,t,rfl,rfl⟩ | ⟨x,t,rfl,rfl⟩<;>rfl
 pyHash:=fun hv h=>by
  rcases Bu hv with ⟨i,t,rfl,rfl⟩ | ⟨x,t,rfl,rfl⟩
  ·exact wpAny_pyHash_int h
  ·exact wpAny_pyHash_str h
 eqBool:=fun hu hv h=>by
  rcases Bu hu with ⟨i,t,rfl,rfl⟩ | ⟨x,t,rfl,rfl⟩
  ·rcases Bu hv with ⟨j,u,rfl,rfl⟩ | ⟨y,u,rfl,rfl⟩
   ·rw [jL] at h;exact wpAny_eqBool_int h
   ·rw [jK] at h;exact SeqAt.EqAt.int_str i t y u _ _ _ _ h
  ·rcases Bu hv with ⟨j,u,rfl,rfl⟩ | ⟨y,u,rfl,rfl⟩
   ·rw [jJ] at h;exact SeqAt.EqAt.str_int x t j u _ _ _ _ h
   ·rw [jI] at h;exact wpAny_eqBool_str h
 «strs»:=fun k x t v h=>by
  rcases Bu h with ⟨i,u,rfl,e⟩ | ⟨y,u,rfl,e⟩
  ·exact nomatch e
  ·injection e with e1 _
   subst e1;cases v<;>rfl
inductive V where
 | non | bl (b:Bool) | int (i:Int) | str (x:Str) | byt (b:Array UInt8) | flt (b:UInt64) | ref (a:Addr) | ty (n:String)
 deriving DecidableEq
def RelV:V->Value->Prop
 | .non,u=>u=Value.none
 | .bl b,u=>u=Value.bool b
 | .int i,u=>∃ t,u=Value.int i t
 | .str x,u=>∃ t,u=Value.str x t
 | .byt b,u=>∃ t,u=Value.bytes b t
 | .flt b,u=>∃ t,u=Value.float b t
 | .ref a,u=>u=Value.ref a
 | .ty n,u=>u=Value.type n
abbrev Am:List V->List Value->Prop:=Paired RelV
theorem Am.length {xs:List V} {us:List Value} (r:Am xs us):xs.length=us.length:=Paired.length r
theorem Am.get:∀ {xs:List V} {us:List Value} {i:Nat} {x:V},Am xs us->xs[i]?=some x->∃ u,us[i]?=some u/\RelV x u
 | _,_,_,_,.nil,e=>by simp at e
 | _,_,0,_,.cons r _,e=>by simp at e;subst e;exact ⟨_,rfl,r⟩
 | _,_,i+1,x,.cons _ t,e=>by
  obtain ⟨u,h1,h2⟩:=Am.get (i:=i) (x:=x) t (by simpa using e);exact ⟨u,by simpa using h1,h2⟩
theorem Am.set {x:V} {u:Value} (r:RelV x u):∀ {xs:List V} {us:List Value} (i:Nat),Am xs us->Am (xs.set i x) (us.set i u)
 | _,_,_,.nil=>.nil
 | _,_,0,.cons _ t=>.cons r t
 | _,_,i+1,.cons q t=>.cons q (Am.set r i t)
theorem Am.append:∀ {xs ys:List V} {us ws:List Value},Am xs us->Am ys ws->Am (xs++ys) (us++ws)
 | _,_,_,_,.nil,s=>s
 | _,_,_,_,.cons r t,s=>.cons r (Am.append t s)
theorem Am.take:∀ {xs:List V} {us:List Value} (n:Nat),Am xs us->Am (xs.take n) (us.take n)
 | _,_,0,_=>.nil
 | _,_,_+1,.nil=>.nil
 | _,_,n+1,.cons r t=>.cons r (Am.take n t)
theorem Am.drop:∀ {xs:List V} {us:List Value} (n:Nat),Am xs us->Am (xs.drop n) (us.drop n)
 | _,_,0,r=>r
 | _,_,_+1,.nil=>.nil
 | _,_,n+1,.cons _ t=>Am.drop n t
def kD:Option V->Option Value->Prop
 | some v,some u=>RelV v u
 | none,none=>True
 | _,_=>False
def KV {κ:Type}:List (κ×V)->List (κ×Value)->Prop:=Paired fun (p:κ×V) (q:κ×Value)=>p.1=q.1/\RelV p.2 q.2
def kV:Qa->V
 | .inl i=>.int i
 | .inr x=>.str x
inductive HO where
 | lst (xs:List V)
 | tup (xs:List V)
 | dK (kvs:List (Qa×V)) | dT (kvs:List (List Qa×V))
 | set (S:Int->Bool) (n:Nat)
 | ins (C dx:Addr) (fs:List (Str×V))
 | own (x:Addr)
 | xd (fs:List (Str×V))
 | met (f x:Addr)
 | rng (lo hi:Int)
 | frz (o:Obj) (u:HO)
 | tbl (ps:Array Value)
 | ext (φ:Heap->Prop)
noncomputable abbrev Hp:=Addr->Option HO
def upd (H:Hp) (a:Addr) (o:HO):Hp:=fun b=>if b=a then some o else H b
theorem Cy {H:Hp} {a:Addr} {o:HO}:upd H a o a=some o:=by unfold upd;rw [if_pos rfl]
theorem BL {H:Hp} {a b:Addr} {o:HO} (h:b≠a):upd H a o b=H b:=by unfold upd;rw [if_neg h]
theorem Dr {H:Hp} {a b:Addr} {o:HO} (h:H a=some o) (h':H b=none):a≠b:=by
 intro e;subst e;rw [h] at h';cases h'
def Kr (h:Heap) (a:Addr) (items:Array Value):Prop:=∃ o,h.get? a=some o/\o.cls=.type "tuple" /\ o.dict=none/\∃ n,o.data=.seq items n
theorem Kr.tup {h:Heap} {a:Addr} {items:Array Value} (x:Kr h a items):IsTup h a items:=let ⟨o,e,c,_,d⟩:=x;⟨o,e,c,d⟩
theorem Kr.new (h:Heap) (items:Array Value):Kr (h.push { cls:=.type "tuple", data:=.seq items }) h.objs.size items:=⟨_,Heap.get?_push_size _ rfl,rfl,rfl,_,rfl⟩
section
variable (P:Program) (w:World)
def CZ (H:Hp) (h:Heap) (a:Addr):HO->Prop
  | .lst xs=>xs.length<=sizeLine/\∃ (its:List Value) (n:Nat),Am xs its/\h.get? a=some { cls:=.type "list", data:=.seq its.toArray n }
  | .tup xs=>xs.length<=sizeLine/\∃ its:List Value,Am xs its/\Kr h a its.toArray
  | .dK kvs=>kvs.length<=sizeLine/\(a == sysModules)=false/\∃ vs,KV kvs vs/\h.DictOf (PY P w) a vs
  | .dT kvs=>kvs.length<=sizeLine/\(a == sysModules)=false/\∃ xs:List (List Qa×Addr×Value),
      Paired (fun (p:List Qa×V) (q:List Qa×Addr×Value)=>p.1=q.1/\H q.2.1=some (.tup (p.1.map kV))/\RelV p.2 q.2.2) kvs xs /\
      ∃ o es ep,h.get? a=some o/\o.ExactDict/\o.data=.dict es ep/\es.toList=xs.map (entryOfKey (tupleKind (PY P w)))/\(xs.map (·.1)).Nodup
  | .set S n=>h.SetOf (intKind P w) a S n
  | .ins C dx fs=>H dx=some (.own a)/\fs.length<=1000/\dx≠a/\h.get? a=some (W.instObj C dx) /\
      ∃ mA,h.Ns1 dx mA/\(∀ f,kD (fs.lookup f) (mA f))/\PySem.Within mA (fs.map (·.1))
  | .own _=>∃ o,h.get? a=some o
  | .xd fs=>∃ mA,h.Ns1 a mA/\∀ f,kD (fs.lookup f) (mA f)
  | .rng lo hi=>∃ t u v,h.get? a=some { cls:=.type "range", data:=.fields #[.int lo t,.int hi u,.int 1 v] }
  | .frz o u=>h.get? a=some o/\CZ H h a u
  | .tbl ps=>h.get? a=some { cls:=.none,data:=.fields ps }
  | .met f x=>h.get? a=some (W.methodObj (.ref f) (.ref x))
  | .ext φ=>φ h/\(∃ o,h.get? a=some o)/\∀ h1 h2:Heap,φ h1->(∀ o,h1.get? a=some o->h2.get? a=some o)->φ h2
def Ks (H:Hp) (h:Heap):Prop:=∀ a o,H a=some o->CZ P w H h a o
end
section
variable {P:Program} {w:World} {H H':Hp} {h h':Heap} {a:Addr} {o:HO}
theorem CZ.lt (x:CZ P w H h a o):a < h.objs.size:=by
 cases o with
 | lst xs=>obtain ⟨_,_,_,_,e⟩:=x;exact Heap.lt_size e
 | tup xs=>obtain ⟨_,_,_,p⟩:=x;exact p.tup.lt
 | dK kvs=>obtain ⟨_,_,_,_,o,_,_,e,_⟩:=x;exact Heap.lt_size e
 | dT kvs=>obtain ⟨_,_,_,_,o,_,_,e,_⟩:=x;exact Heap.lt_size e
 | set S n=>obtain ⟨o,_,_,_,e,_⟩:=x;exact Heap.lt_size e
 | ins C dx fs=>obtain ⟨_,_,_,e,_⟩:=x;exact Heap.lt_size e
 | own y=>obtain ⟨_,e⟩:=x;exact Heap.lt_size e
 | xd fs=>obtain ⟨_,⟨_,_,_,e,_⟩,_⟩:=x;exact Heap.lt_size e
 | rng lo hi=>obtain ⟨_,_,_,e⟩:=x;exact Heap.lt_size e
 | frz ob u=>obtain ⟨e,_⟩:=x;exact Heap.lt_size e
 | tbl ps=>exact Heap.lt_size (show h.get? a=some _ from x)
 | met f y=>exact Heap.lt_size (show h.get? a=some _ from x)
 | ext φ=>obtain ⟨_,⟨_,e⟩,_⟩:=x;exact Heap.lt_size e
theorem Paired.mapP {α β:Type} {F G:α->β->Prop}:∀ {l₁:List α} {l₂:List β},Paired F l₁ l₂->(∀ a b,F a b->G a b)->Paired G l₁ l₂
 | _,_,.nil,_=>.nil
 | _,_,.cons r t,f=>.cons (f _ _ r) (Paired.mapP t f)
theorem CZ.stay (x:CZ P w H h a o) (k:∀ b u,(b=a\/H b=some (.own a))->h.get? b=some u->h'.get? b=some u)
    (ho:∀ b,H b=some (.own a)->H' b=some (.own a)) (ht:∀ b xs,H b=some (.tup xs)->H' b=some (.tup xs)):CZ P w H' h' a o:=by
  induction o with
  | lst xs=>obtain ⟨z,its,n,r,e⟩:=x;exact ⟨z,its,n,r,k _ _ (.inl rfl) e⟩
  | tup xs=>obtain ⟨z,its,r,ob,e,c⟩:=x;exact ⟨z,its,r,ob,k _ _ (.inl rfl) e,c⟩
  | dK kvs=>obtain ⟨z,y,vs,r,ob,es,ep,e,c⟩:=x;exact ⟨z,y,vs,r,ob,es,ep,k _ _ (.inl rfl) e,c⟩
  | dT kvs =>
    obtain ⟨z,y,xs,r,ob,es,ep,e,c⟩:=x;exact ⟨z,y,xs,Paired.mapP r fun p q z=>⟨z.1,ht _ _ z.2.1,z.2.2⟩,ob,es,ep,k _ _ (.inl rfl) e,c⟩
  | set S n=>obtain ⟨ob,es,ep,t,e,c⟩:=x;exact ⟨ob,es,ep,t,k _ _ (.inl rfl) e,c⟩
  | ins C dx fs =>
    obtain ⟨d,z,ne,e,mA,⟨od,es,ep,e2,c⟩,r⟩:=x;exact ⟨ho _ d,z,ne,k _ _ (.inl rfl) e,mA,⟨od,es,ep,k _ _ (.inr d) e2,c⟩,r⟩
  | own y=>obtain ⟨ob,e⟩:=x;exact ⟨ob,k _ _ (.inl rfl) e⟩
  | xd fs=>obtain ⟨mA,⟨od,es,ep,e,c⟩,r⟩:=x;exact ⟨mA,⟨od,es,ep,k _ _ (.inl rfl) e,c⟩,r⟩
  | rng lo hi=>obtain ⟨t,u,v,e⟩:=x;exact ⟨t,u,v,k _ _ (.inl rfl) e⟩
  | frz ob u ih=>obtain ⟨e,q⟩:=x;exact ⟨k _ _ (.inl rfl) e,ih q⟩
  | tbl ps =>
    have e:h.get? a=some { cls:=.none,data:=.fields ps }:=x;show h'.get? a=some { cls:=.none,data:=.fields ps };exact k a _ (.inl rfl) e
  | met f y =>
    have e:h.get? a=some (W.methodObj (.ref f) (.ref y)):=x;show h'.get? a=some (W.methodObj (.ref f) (.ref y));exact k a _ (.inl rfl) e
  | ext φ=>obtain ⟨p,⟨o,e⟩,st⟩:=x;exact ⟨st _ _ p fun o q=>k _ _ (.inl rfl) q,⟨o,k _ _ (.inl rfl) e⟩,st⟩
theorem Ks.lt (x:Ks P w H h) (e:H a=some o):a < h.objs.size:=(x a o e).lt
theorem Ks.fresh (x:Ks P w H h) (e:h.objs.size<=a):H a=none:=by
 cases q:H a with
 | none=>rfl
 | some u=>exact absurd (Nat.lt_of_lt_of_le (x.lt q) e) (Nat.lt_irrefl _)
theorem Ks.kept (x:Ks P w H h) (k:∀ b u,h.get? b=some u->h'.get? b=some u):Ks P w H h':=fun a o e =>
 (x a o e).stay (fun b u _ q=>k b u q) (fun _ q=>q) fun _ _ q=>q
theorem Ks.laid (x:Ks P w H h) (k:∀ b u,h.get? b=some u->h'.get? b=some u) (hp:h.objs.size<=a) (new:CZ P w (upd H a o) h' a o):Ks P w (upd H a o) h':=fun b u e=>by
 have hn:=x.fresh hp
 by_cases hb:b=a
 ·subst hb;rw [Cy] at e;cases e;exact new
 ·rw [BL hb] at e;exact (x b u e).stay (fun c v _ q=>k c v q) (fun c q=>by rw [BL (Dr q hn)];exact q) fun c xs q=>by rw [BL (Dr q hn)];exact q
end
def Rd (H:Hp) (a:Addr) (u:HO):Prop:=H a=some u\/∃ o,H a=some (.frz o u)
theorem Rd.ok {P:Program} {w:World} {H:Hp} {h:Heap} {a:Addr} {u:HO} (r:Rd H a u) (x:Ks P w H h):CZ P w H h a u:=by
 rcases r with r | ⟨o,r⟩
 ·exact x a u r
 ·obtain ⟨_,q⟩:=x a _ r;exact q
def gQ:Option HO->Prop
 | some (.lst _)=>True
 | some (.dK _)=>True
 | some (.dT _)=>True
 | some (.set _ _)=>True
 | some (.ins _ _ _)=>True
 | some (.ext _)=>True
 | _=>False
section
variable {P:Program} {w:World} {H:Hp} {h h':Heap} {x e:Addr} {o':HO}
theorem Ks.write (ok:Ks P w H h) (mu:gQ (H x)) (he:e=x\/H e=some (.own x)) (k:∀ b u,b≠e->h.get? b=some u->h'.get? b=some u) (heo:∃ u,h'.get? e=some u)
    (new:CZ P w (upd H x o') h' x o'):Ks P w (upd H x o') h':=fun b u q=>by
  have nown:∀ c y,H c=some (.own y)->c≠x:=fun c y r z=>by subst z;rw [r] at mu;exact mu
  have ntup:∀ c xs,H c=some (.tup xs)->c≠x:=fun c xs r z=>by subst z;rw [r] at mu;exact mu
  by_cases hb:b=x
  · subst hb;rw [Cy] at q;cases q;exact new
  · rw [BL hb] at q
    by_cases hbe:b=e
    · have q':H b=some (.own x):=by
        rcases he with z | z
        · exact absurd (hbe.trans z) hb
        · rw [hbe];exact z
      rw [q] at q';cases q';obtain ⟨v,hv⟩:=heo;exact ⟨v,by rw [hbe];exact hv⟩
    · refine (ok b u q).stay (fun c v hc r=>k c v ?_ r) (fun c r=>by rw [BL (nown c b r)];exact r) fun c xs r=>by rw [BL (ntup c xs r)];exact r
      rcases hc with rfl | hc
      · exact hbe
      · rintro rfl;rcases he with z | z
        · exact nown c b hc z
        · rw [hc] at z;cases z;exact hb rfl
end
structure Un (fs ex:List Addr) (H H':Hp) (h h':Heap):Prop where
 keep:∀ b o,h.get? b=some o->H b=none->b∉fs->b∉ex->h'.get? b=some o
 slot:∀ b o,h.get? b=some o->H b=none->b∈fs->b∉ex->∃ sl,h'.get? b=some { o with slots:=sl }
 free:∀ b o,h.get? b=some o->H b=none->b∉ex->H' b=none
 there:∀ b o,h.get? b=some o->b∉ex->∃ o',h'.get? b=some o'
 tups:∀ b xs,H b=some (.tup xs)->H' b=some (.tup xs)
 frzs:∀ b o u,H b=some (.frz o u)->H' b=some (.frz o u)
 tbls:∀ b ps,H b=some (.tbl ps)->∃ more,H' b=some (.tbl (ps++more))
section
variable {fs fs' ex ex':List Addr} {H H1 H2:Hp} {h h1 h2 h':Heap} {a x e:Addr} {o:HO}
theorem Un.any (u:Un fs ex H H1 h h1) {b:Addr} {ob:Obj} (q:h.get? b=some ob) (n:H b=none) (hx:b∉ex):∃ sl,h1.get? b=some { ob with slots:=sl }:=by
 by_cases hb:b∈fs
 ·exact u.slot b ob q n hb hx
 ·exact ⟨ob.slots,u.keep b ob q n hb hx⟩
theorem Un.kept (k:∀ b u,h.get? b=some u->h'.get? b=some u):Un fs ex H H h h':=
 ⟨fun b ob q _ _ _=>k b ob q,fun b ob q _ _ _=>⟨ob.slots,k b ob q⟩,fun _ _ _ n _=>n,fun b ob q _=>⟨ob,k b ob q⟩,fun _ _ q=>q,fun _ _ _ q=>q,fun _ ps q=>⟨#[],by rw [q];simp⟩⟩
theorem Un.refl:Un fs ex H H h h:=Un.kept fun _ _ q=>q
theorem Un.laid (k:∀ b u,h.get? b=some u->h'.get? b=some u) (hp:h.objs.size<=a) (hn:H a=none):Un fs ex H (upd H a o) h h' where
 keep:=fun b u q _ _ _=>k b u q
 slot:=fun b u q _ _ _=>⟨u.slots,k b u q⟩
 free:=fun b u q n _=>by rw [BL (Nat.ne_of_lt (Nat.lt_of_lt_of_le (Heap.lt_size q) hp))];exact n
 there:=fun b u q _=>⟨u,k b u q⟩
 tups:=fun b xs q=>by rw [BL (Dr q hn)];exact q
 frzs:=fun b u xs q=>by rw [BL (Dr q hn)];exact q
 tbls:=fun b ps q=>⟨#[],by rw [BL (Dr q hn),q];simp⟩
theorem Un.write (mu:gQ (H x)) (he:e=x\/H e=some (.own x)) (k:∀ b u,b≠e->h.get? b=some u->h'.get? b=some u) (heo:∃ u,h'.get? e=some u):Un fs ex H (upd H x o) h h':=by
 have hx:∀ b,H b=none->b≠x:=fun b n z=>by subst z;rw [n] at mu;exact mu
 have hb:∀ b,H b=none->b≠e:=fun b n z=>by
  subst z;rcases he with r | r
  ·exact hx b n r
  ·rw [n] at r;cases r
 have hm:∀ b u,H b=some u->¬ gQ (some u)->b≠x:=fun b u q nm z=>by subst z;rw [q] at mu;exact nm mu
 refine ⟨fun b u q n _ _=>k b u (hb b n) q,fun b u q n _ _=>⟨u.slots,k b u (hb b n) q⟩,fun b u q n _=>by rw [BL (hx b n)];exact n,fun b u q _=>?_,
  fun b xs q=>by rw [BL (hm b _ q fun z=>z)];exact q,fun b u xs q=>by rw [BL (hm b _ q fun z=>z)];exact q,fun b ps q=>⟨#[],by rw [BL (hm b _ q fun z=>z),q];simp⟩⟩
 by_cases hbe:b=e
 ·subst hbe;exact heo
 ·exact ⟨u,k b u hbe q⟩
end
def nD (h:Heap) (H:Hp):List Addr:=(List.range h.objs.size).filter fun a=>(H a).isSome
def Pq (h:Heap) (H:Hp):Heap:=W.hideAll h (nD h H)
theorem Vz (h:Heap) (H:Hp):(Pq h H).objs.size=h.objs.size:=W.hideAll_size _ _
theorem ZW {h:Heap} {H:Hp} {b:Addr} {o:Obj} (e:h.get? b=some o) (n:H b=none):(Pq h H).get? b=some o:=
 W.hideAll_get _ e fun hm=>by
  have q:(H b).isSome=true:=(List.mem_filter.mp hm).2;rw [n] at q;simp at q
theorem cJ {h:Heap} {H:Hp} {b:Addr} {o:Obj} (e:(Pq h H).get? b=some o):h.get? b=some o/\H b=none:=by
 have e':h.get? b=some o:=W.of_hideAll (nD h H) e;refine ⟨e',?_⟩;cases q:H b with
 | none=>rfl
 | some x =>
  have hm:b∈nD h H:=List.mem_filter.mpr ⟨List.mem_range.mpr (Heap.lt_size e'),by simp [q]⟩;have z:(Pq h H).get? b=none:=W.hideAll_none (nD h H) hm;rw [z] at e;cases e
noncomputable def dE (g h:Heap) (L:Addr):List (Addr×Obj):=(List.range h.objs.size).filterMap fun a=>if a=L\/(g.get? a).isSome=true then none else (h.get? a).map fun o=>(a,o)
def rest (g h:Heap) (L d:Addr):List (Addr×Obj):=(dE g h L).filter fun p=>decide (p.1≠d)
structure Mod (K:W.Frag) (mg:Str->Option Value) (base:Heap):Prop where
 kin:K.In base
 glob:base.Ns mainGlobals mg
 blt:∃ mb,base.Ns builtinsNs mb/\∀ x:Str,x ≠ "__name__" -> mb x=bootBuiltins x
 nolimit:base.NoLimit
structure Cx where
 prog:Program
 w:World
 K:W.Frag
 mg:Str->Option Value
 base:Heap
 A:Around
 N:List Str
 s₀:Shared
 H₀:Hp
 env:Env
 outer:List Env
 stack:List Env
 ex:List Addr
 fn:Str->Bool
 calm:Bool
 pn:List (Addr×Obj)
 xe:Value->Shared->Prop
noncomputable def Ug (l:List Env):List Addr:=l.filterMap (·.frame)
abbrev Cx.fs (X:Cx):List Addr:=Ug X.outer
def pP (sc:Scope) (x:Str):Prop:=sc.names.lookup x=some .local\/sc.names.lookup x=some .cell\/sc.names.lookup x=some .free
def Loc (sc:Scope) (x:Str):Prop:=sc.names.lookup x=some .local\/sc.names.lookup x=some .cell
def Look (env:Env) (h:Heap) (m:Str->Option Value) (x:Str) (u:Value):Prop:=
 (env.kindOf x=some .local/\m x=some u)\/((env.kindOf x=some .cell\/env.kindOf x=some .free)/\∃ c,env.cells.lookup x=some c/\h.IsCell c (some u))
structure Cx.Ok (X:Cx):Prop where
 mod:Mod X.K X.mg X.base
 kind:X.env.scope.kind=.function
 glob:X.env.globals=mainGlobals
 blt:X.env.builtins=builtinsNs
 above:X.s₀.heap.objs.size<=X.env.locals
 inj:∀ x y c,X.env.cells.lookup x=some c->X.env.cells.lookup y=some c->x=y
 has:∀ x,(X.env.kindOf x=some .cell\/X.env.kindOf x=some .free)->∃ c,X.env.cells.lookup x=some c
 cab:∀ x c,X.fn x=true->X.env.cells.lookup x=some c->X.s₀.heap.objs.size<=c
 hd:X.calm=true->X.A.handled=none
 frames:X.A.frames=some X.stack
 stk:X.stack=X.outer\/(X.stack=X.env::X.outer/\X.env.frame=some X.env.locals)
 exf:∀ b∈X.ex,b≠X.env.locals/\∀ x c,X.env.cells.lookup x=some c->c≠b
 bs:∀ b o,X.base.get? b=some o->X.s₀.heap.get? b=some o/\X.H₀ b=none
 bsz:X.base.objs.size<=X.s₀.heap.objs.size
 noex:∀ b o,X.base.get? b=some o->b∉X.ex
 exfs:∀ b∈X.ex,b∉X.fs
 funs:X.s₀.heap.FunFrames X.base X.outer
 frf:∀ b∈X.fs,X.H₀ b=none
structure Inv (X:Cx) (pins:List (Addr×Obj)) (σ:List (Option V)) (H:Hp) (s:Shared):Prop where
 ok:X.Ok
 os:s.os=X.s₀.os
 bare:AllBare s.gens
 base:Un X.fs X.ex X.H₀ H X.s₀.heap s.heap
 loc:∃ m,s.heap.Ns X.env.locals m/\∀ (i:Nat) (x:Str) (v:V),X.N[i]?=some x->σ[i]?=some (some v)->pP X.env.scope x->∃ u,RelV v u/\Look X.env s.heap m x u
 cell:∀ x c,X.env.cells.lookup x=some c->∃ v,s.heap.IsCell c v
 free:H X.env.locals=none
 freeC:∀ x c,X.env.cells.lookup x=some c->H c=none
 pin:∀ p∈X.pn++pins,s.heap.get? p.1=some p.2/\H p.1=none/\p.1≠X.env.locals/\p.1∉X.fs/\∀ v,p.2.data≠.cell v
 hok:Ks X.prog X.w H s.heap
 len:σ.length=X.N.length
section
variable {X:Cx} {pins:List (Addr×Obj)} {σ:List (Option V)} {H H':Hp} {s:Shared} {h':Heap}
theorem Cx.Ok.nofr (ok:X.Ok) {b:Addr} {o:Obj} (e:X.base.get? b=some o):b∉X.fs:=fun hb=>by
 have:=(ok.funs.mem hb).1;rw [e] at this;cases this
theorem Inv.bs (I:Inv X pins σ H s):∀ b o,X.base.get? b=some o->s.heap.get? b=some o/\H b=none:=fun b o e =>
 ⟨I.base.keep b o (I.ok.bs b o e).1 (I.ok.bs b o e).2 (I.ok.nofr e) (I.ok.noex b o e),I.base.free b o (I.ok.bs b o e).1 (I.ok.bs b o e).2 (I.ok.noex b o e)⟩
theorem Inv.bk (I:Inv X pins σ H s):∀ b o,X.base.get? b=some o->s.heap.get? b=some o:=fun b o e=>(I.bs b o e).1
theorem Inv.mod (I:Inv X pins σ H s):Mod X.K X.mg X.base:=I.ok.mod
theorem Inv.kIn (I:Inv X pins σ H s):X.K.In s.heap:=I.ok.mod.kin.keeps I.bk
theorem Inv.fr (I:Inv X pins σ H s):∃ m,Fr X.base X.env.locals s.heap m:=
 let ⟨m,hn,_⟩:=I.loc
 ⟨m,hn,I.bk,Nat.le_trans I.ok.bsz I.ok.above⟩
theorem Inv.lt (I:Inv X pins σ H s):X.env.locals < s.heap.objs.size:=let ⟨_,hn,_⟩:=I.loc;hn.lt
theorem Inv.sz (I:Inv X pins σ H s):X.s₀.heap.objs.size<=s.heap.objs.size:=Nat.le_trans I.ok.above (Nat.le_of_lt I.lt)
theorem Inv.nofs (I:Inv X pins σ H s) {a:Addr} (h:s.heap.objs.size<=a):a∉X.fs:=fun hb=>by
 obtain ⟨_,o,ho,_⟩:=I.ok.funs.mem hb;exact absurd (Nat.lt_of_lt_of_le (Heap.lt_size ho) (Nat.le_trans I.sz h)) (Nat.lt_irrefl _)
theorem Inv.cne (I:Inv X pins σ H s):∀ x c,X.env.cells.lookup x=some c->c≠X.env.locals:=fun x c e z=>by
 obtain ⟨v,o,ho,hd⟩:=I.cell x c e;obtain ⟨m,⟨o',es,ep,ho',hd',_⟩,_⟩:=I.loc;rw [z,ho'] at ho;cases ho;rw [hd'] at hd;cases hd
theorem Inv.funs (I:Inv X pins σ H s):s.heap.FunFrames X.base X.outer:=by
 have all:∀ (l:List Env),(∀ b∈Ug l,b∈X.fs)->X.s₀.heap.FunFrames X.base l->s.heap.FunFrames X.base l:=by
  intro l
  induction l with
  | nil=>intro _ _;trivial
  | cons env r ih =>
   intro hs hl;obtain ⟨hk,⟨L,o,hf,hn,ho,hd⟩,hr⟩:=hl;have hL:L∈X.fs:=hs L (by unfold Ug;rw [List.filterMap_cons,hf];exact List.mem_cons_self);obtain ⟨sl,e⟩:=I.base.slot L o ho (I.ok.frf L hL) hL fun z=>I.ok.exfs L z hL
   exact ⟨hk,⟨L,_,hf,hn,e,hd⟩,ih (fun b hb=>hs b (by unfold Ug;rw [List.filterMap_cons,hf];exact List.mem_cons_of_mem _ hb)) hr⟩
 exact all X.outer (fun _ hb=>hb) I.ok.funs
theorem Inv.stack (I:Inv X pins σ H s):s.heap.FunFrames X.base X.stack:=by
 rcases I.ok.stk with e | ⟨e,hf⟩
 ·rw [e];exact I.funs
 ·rw [e];obtain ⟨m,hn,_⟩:=I.loc;refine .cons (by rw [I.ok.kind];decide) hf hn ?_ I.funs;exact Heap.get?_none_of_le (Nat.le_trans I.ok.bsz I.ok.above)
theorem Inv.stkSub (I:Inv X pins σ H s):∀ b∈Ug X.stack,b∈X.env.locals::X.fs:=fun b hb=>by
 rcases I.ok.stk with e | ⟨e,hf⟩
 ·rw [e] at hb;exact List.mem_cons_of_mem _ hb
 ·rw [e] at hb;unfold Ug at hb;rw [List.filterMap_cons,hf] at hb;exact hb
theorem Inv.stkFree (I:Inv X pins σ H s):∀ b∈Ug X.stack,H b=none:=fun b hb=>by
 rcases List.mem_cons.mp (I.stkSub b hb) with e | hb
 ·rw [e];exact I.free
 ·obtain ⟨_,o,ho,_⟩:=I.ok.funs.mem hb;exact I.base.free b o ho (I.ok.frf b hb) fun z=>I.ok.exfs b z hb
theorem Inv.step {g':Array GenState} {t':Nat} {d':Drawn} {ch:List Addr} (I:Inv X pins σ H s)
    (hch:∀ b∈ch,(b∈X.ex\/X.s₀.heap.objs.size<=b)/\b≠X.env.locals/\(∀ x c,X.env.cells.lookup x=some c->c≠b)/\∀ p∈X.pn++pins,p.1≠b)
    (keep:∀ b o,b≠X.env.locals->b∉X.fs->b∉ch->s.heap.get? b=some o->H b=none->h'.get? b=some o)
    (slot:∀ b o,b≠X.env.locals->b∈X.fs->b∉ch->s.heap.get? b=some o->H b=none->∃ sl,h'.get? b=some { o with slots:=sl }) (free:∀ b o,b∉ch->s.heap.get? b=some o->H b=none->H' b=none)
    (there:∀ b o,b∉ch->s.heap.get? b=some o->∃ o',h'.get? b=some o')
    (tups:∀ b xs,H b=some (.tup xs)->H' b=some (.tup xs)) (frzs:∀ b o u,H b=some (.frz o u)->H' b=some (.frz o u)) (tbls:∀ b ps,H b=some (.tbl ps)->∃ more,H' b=some (.tbl (ps++more)))
    (ns:∀ m,s.heap.Ns X.env.locals m->h'.Ns X.env.locals m) (hok:Ks X.prog X.w H' h') (hg:AllBare g') :
    Inv X pins σ H' { s with heap:=h',gens:=g',drawn:=d',toks:=t' }:=by
  have neL:∀ b o,X.s₀.heap.get? b=some o->b≠X.env.locals:=fun b o e=>Nat.ne_of_lt (Nat.lt_of_lt_of_le (Heap.lt_size e) I.ok.above)
  have neC:∀ b o,X.s₀.heap.get? b=some o->b∉X.ex->b∉ch:=fun b o e hx hb=>by
    rcases (hch b hb).1 with z | z
    · exact hx z
    · exact absurd (Nat.lt_of_lt_of_le (Heap.lt_size e) z) (Nat.lt_irrefl _)
  have cellK:∀ x c,X.env.cells.lookup x=some c->∀ v,s.heap.IsCell c v->h'.IsCell c v:=fun x c e v ⟨o,ho,hd⟩=>by
    have nch:c∉ch:=fun z=>(hch c z).2.2.1 x c e rfl
    by_cases hc:c∈X.fs
    · obtain ⟨sl,q⟩:=slot c o (I.cne x c e) hc nch ho (I.freeC x c e);exact ⟨_,q,hd⟩
    · exact ⟨o,keep c o (I.cne x c e) hc nch ho (I.freeC x c e),hd⟩
  refine ⟨I.ok,I.os,hg,⟨fun b o e n hb hx=>?_,fun b o e n hb hx=>?_,fun b o e n hx=>?_,fun b o e hx=>?_,fun b xs e=>tups b xs (I.base.tups b xs e),fun b o xs e=>frzs b o xs (I.base.frzs b o xs e),fun b ps e=>?_⟩,?_,fun x c e=>?_,?_,fun x c e=>?_,fun p hp=>?_,hok,I.len⟩
  · exact keep b o (neL b o e) hb (neC b o e hx) (I.base.keep b o e n hb hx) (I.base.free b o e n hx)
  · obtain ⟨sl,e1⟩:=I.base.slot b o e n hb hx;obtain ⟨sl',e2⟩:=slot b _ (neL b o e) hb (neC b o e hx) e1 (I.base.free b o e n hx);exact ⟨sl',e2⟩
  · obtain ⟨o',e1⟩:=I.base.there b o e hx;exact free b o' (neC b o e hx) e1 (I.base.free b o e n hx)
  · obtain ⟨o',e1⟩:=I.base.there b o e hx;exact there b o' (neC b o e hx) e1
  · obtain ⟨m1,e1⟩:=I.base.tbls b ps e;obtain ⟨m2,e2⟩:=tbls b _ e1;exact ⟨m1++m2,by rw [e2,Array.append_assoc]⟩
  · obtain ⟨m,hn,hl⟩:=I.loc;refine ⟨m,ns m hn,fun i x v e1 e2 e3=>?_⟩;obtain ⟨u,r,l⟩:=hl i x v e1 e2 e3;refine ⟨u,r,?_⟩;rcases l with l | ⟨k,c,e,z⟩
    · exact .inl l
    · exact .inr ⟨k,c,e,cellK x c e _ z⟩
  · obtain ⟨v,z⟩:=I.cell x c e;exact ⟨v,cellK x c e v z⟩
  · obtain ⟨m,⟨o,_,_,ho,_⟩,_⟩:=I.loc;exact free _ o (fun z=>(hch _ z).2.1 rfl) ho I.free
  · obtain ⟨v,o,ho,hd⟩:=I.cell x c e;exact free c o (fun z=>(hch c z).2.2.1 x c e rfl) ho (I.freeC x c e)
  · obtain ⟨e,n,ne,nf,d⟩:=I.pin p hp;have nch:p.1∉ch:=fun z=>(hch p.1 z).2.2.2 p hp rfl
    exact ⟨keep p.1 p.2 ne nf nch e n,free p.1 p.2 nch e n,ne,nf,d⟩
theorem Inv.un {t':Nat} (I:Inv X pins σ H s) (u:Un X.fs [] H H' s.heap h') (hok:Ks X.prog X.w H' h'):Inv X pins σ H' { s with heap:=h',toks:=t' }:=by
 obtain ⟨m,⟨o,es,ep,ho,r⟩,_⟩:=id I.loc;obtain ⟨sl,hL⟩:=u.any ho I.free (by simp);exact I.step (g':=s.gens) (d':=s.drawn) (ch:=[]) (fun _ z=>nomatch z) (fun b o _ hb _ e n=>u.keep b o e n hb (by simp)) (fun b o _ hb _ e n=>u.slot b o e n hb (by simp)) (fun b o _ e n=>u.free b o e n (by simp)) (fun b o _ e=>u.there b o e (by simp)) u.tups u.frzs u.tbls (fun m' hm=>by
  obtain ⟨o',es',ep',ho',r'⟩:=hm;rw [ho] at ho';cases ho';exact ⟨_,es',ep',hL,r'⟩) hok I.bare
theorem Inv.call {g':Array GenState} {t':Nat} {d':Drawn} {ch:List Addr} (I:Inv X pins σ H s) (u:Un (Ug X.stack) ch H H' s.heap h') (hok:Ks X.prog X.w H' h') (hg:AllBare g')
    (hch:∀ b∈ch,(b∈X.ex\/X.s₀.heap.objs.size<=b)/\b≠X.env.locals/\(∀ x c,X.env.cells.lookup x=some c->c≠b)/\∀ p∈X.pn++pins,p.1≠b) :
    Inv X pins σ H' { s with heap:=h',gens:=g',drawn:=d',toks:=t' }:=by
  obtain ⟨m,⟨o,es,ep,ho,r⟩,_⟩:=id I.loc;obtain ⟨sl,hL⟩:=u.any ho I.free fun z=>(hch _ z).2.1 rfl
  exact I.step (ch:=ch) hch (fun b o hL hb hc e n=>u.keep b o e n (fun z=>(List.mem_cons.mp (I.stkSub b z)).elim hL hb) hc) (fun b o _ _ hc e n=>u.any e n hc) (fun b o hc e n=>u.free b o e n hc) (fun b o hc e=>u.there b o e hc) u.tups u.frzs u.tbls (fun m' hm=>by
    obtain ⟨o',es',ep',ho',r'⟩:=hm;rw [ho] at ho';cases ho';exact ⟨_,es',ep',hL,r'⟩) hok hg
theorem Inv.turned {t':Nat} {it:Addr} (I:Inv X pins σ H s) (k:∀ b o,b≠it->s.heap.get? b=some o->h'.get? b=some o) (hn:H it=none) (hL:it≠X.env.locals)
    (h1:it∈X.ex\/X.s₀.heap.objs.size<=it) (h2:∀ x c,X.env.cells.lookup x=some c->c≠it) (h3:∀ p∈X.pn++pins,p.1≠it):Inv X pins σ H { s with heap:=h',toks:=t' }:=by
  have nit:∀ b u,H b=some u->b≠it:=fun b u e z=>by rw [z,hn] at e;cases e
  refine I.step (g':=s.gens) (d':=s.drawn) (ch:=[it]) (fun b hb=>?_) (fun b o _ _ hc e _=>k b o (fun z=>hc (by simp [z])) e) (fun b o _ _ hc e _=>⟨o.slots,k b o (fun z=>hc (by simp [z])) e⟩) (fun _ _ _ _ n=>n)
    (fun b o hc e=>⟨o,k b o (fun z=>hc (by simp [z])) e⟩) (fun _ _ e=>e) (fun _ _ _ e=>e) (fun b ps e=>⟨#[],by rw [e];simp⟩) (fun m hm=>?_) (fun b u e=>?_) I.bare
  · have e:b=it:=by simpa using hb
    subst e;exact ⟨h1,hL,h2,h3⟩
  · obtain ⟨o,es,ep,ho,r⟩:=hm;exact ⟨o,es,ep,k _ o (Ne.symm hL) ho,r⟩
  · refine (I.hok b u e).stay (fun c v hc q=>k c v ?_ q) (fun _ q=>q) fun _ _ q=>q
    rcases hc with z | z
    · rw [z];exact nit b u e
    · exact nit c _ z
theorem Inv.tok (I:Inv X pins σ H s) (t:Nat):Inv X pins σ H { s with toks:=t }:=I.un (h':=s.heap) (t':=t) Un.refl I.hok
theorem Inv.kept {t':Nat} (I:Inv X pins σ H s) (k:∀ b u,s.heap.get? b=some u->h'.get? b=some u):Inv X pins σ H { s with heap:=h',toks:=t' }:=I.un (Un.kept k) (I.hok.kept k)
theorem Inv.laid {a:Addr} {o:HO} {t':Nat} (I:Inv X pins σ H s) (k:∀ b u,s.heap.get? b=some u->h'.get? b=some u) (hp:s.heap.objs.size<=a) (new:CZ X.prog X.w (upd H a o) h' a o) :
    Inv X pins σ (upd H a o) { s with heap:=h',toks:=t' }:=I.un (Un.laid k hp (I.hok.fresh hp)) (I.hok.laid k hp new)
theorem Inv.write {x e:Addr} {o:HO} {t':Nat} (I:Inv X pins σ H s) (mu:gQ (H x)) (he:e=x\/H e=some (.own x)) (k:∀ b u,b≠e->s.heap.get? b=some u->h'.get? b=some u) (heo:∃ u,h'.get? e=some u)
    (new:CZ X.prog X.w (upd H x o) h' x o):Inv X pins σ (upd H x o) { s with heap:=h',toks:=t' }:=I.un (Un.write mu he k heo) (I.hok.write mu he k heo new)
theorem Inv.weak {σ':List (Option V)} (I:Inv X pins σ H s) (hl:σ'.length=σ.length) (w:∀ (i:Nat) v,σ'[i]?=some (some v)->σ[i]?=some (some v)):Inv X pins σ' H s:=
 ⟨I.ok,I.os,I.bare,I.base,let ⟨m,hn,hl'⟩:=I.loc;⟨m,hn,fun i x v e1 e2 e3=>hl' i x v e1 (w i v e2) e3⟩,I.cell,I.free,I.freeC,I.pin,I.hok,hl.trans I.len⟩
theorem Inv.pins_of {pins':List (Addr×Obj)} (I:Inv X pins σ H s) (h:∀ p∈pins',s.heap.get? p.1=some p.2/\H p.1=none/\p.1≠X.env.locals/\p.1∉X.fs/\∀ v,p.2.data≠.cell v):Inv X pins' σ H s:=
 ⟨I.ok,I.os,I.bare,I.base,I.loc,I.cell,I.free,I.freeC,fun p hp=>(List.mem_append.mp hp).elim (fun z=>I.pin p (List.mem_append_left _ z)) (h p),I.hok,I.len⟩
theorem RE {N:List Str} (hN:N.Nodup) {i j:Nat} {x:Str} (a:N[i]?=some x) (b:N[j]?=some x):i=j:=by
 obtain ⟨h1,e1⟩:=List.getElem?_eq_some_iff.mp a;obtain ⟨h2,e2⟩:=List.getElem?_eq_some_iff.mp b;exact (List.getElem_inj hN).mp (e1.trans e2.symm)
theorem Nk {M:Model} {A:Around} {E:Value->Shared->Prop} {i:Nat} {x:Str} {v:V} {u:Value} {Q:Unit->Shared->Prop} (I:Inv X pins σ H s) (hN:X.N.Nodup) (hi:X.N[i]?=some x) (hx:Loc X.env.scope x) (r:RelV v u)
    (h:∀ s',Inv X pins (σ.set i (some v)) H s'->(∃ a,Heap.SameBut a s.heap s'.heap/\(a=X.env.locals\/X.env.cells.lookup x=some a))->Q () s') (hf:X.fn x=true\/X.env.scope.names.lookup x=some .local:=by first | exact .inl rfl | exact .inr rfl | assumption):wpAny M A (storeName X.env x u) Q E s:=by
  obtain ⟨m,hn,hl⟩:=id I.loc;have hcls:(X.env.scope.kind == .class || (X.env.scope.kind == .module && X.env.locals != X.env.globals))=false:=by rw [I.ok.kind];rfl
  have hiσ:i < σ.length:=by rw [I.len];exact (List.getElem?_eq_some_iff.mp hi).1
  have cne:=I.cne;have tracked:∀ {a:Addr} {h':Heap},(∃ o,s.heap.get? a=some o/\H a=none)->Heap.SameBut a s.heap h'->Ks X.prog X.w H h':=fun {a h'} ha hs b ob e=>by
    obtain ⟨_,_,hfree⟩:=ha;refine (I.hok b ob e).stay (fun c w' hc q=>(hs.2 c ?_).trans q) (fun _ q=>q) fun _ _ q=>q
    rintro rfl;rcases hc with rfl | hc
    · rw [hfree] at e;cases e
    · rw [hfree] at hc;cases hc
  rcases hx with hk | hk
  · refine wpAny_storeName_local hk hn (fun h' hn' hs=>?_) hcls;obtain ⟨oL,_,_,hoL,_⟩:=id hn;refine h _ ⟨I.ok,I.os,I.bare,⟨fun b o e n hb hx=>?_,fun b o e n hb hx=>?_,I.base.free,fun b o e hx=>?_,I.base.tups,I.base.frzs,I.base.tbls⟩,⟨_,hn',fun j y v' e1 e2 e3=>?_⟩,fun y c e=>?_,I.free,I.freeC,fun p hp=>?_,tracked ⟨oL,hoL,I.free⟩ hs,by simpa using I.len⟩ ⟨_,hs,.inl rfl⟩
    · exact (hs.2 b (Nat.ne_of_lt (Nat.lt_of_lt_of_le (Heap.lt_size e) I.ok.above))).trans (I.base.keep b o e n hb hx)
    · obtain ⟨sl,e1⟩:=I.base.slot b o e n hb hx;exact ⟨sl,(hs.2 b (Nat.ne_of_lt (Nat.lt_of_lt_of_le (Heap.lt_size e) I.ok.above))).trans e1⟩
    · obtain ⟨o',e1⟩:=I.base.there b o e hx;exact ⟨o',(hs.2 b (Nat.ne_of_lt (Nat.lt_of_lt_of_le (Heap.lt_size e) I.ok.above))).trans e1⟩
    · by_cases hj:j=i
      · subst hj;rw [hi] at e1;cases e1;rw [List.getElem?_set_self hiσ] at e2;cases e2;exact ⟨u,r,.inl ⟨hk,by simp⟩⟩
      · rw [List.getElem?_set_ne (Ne.symm hj)] at e2;obtain ⟨u',r',q⟩:=hl j y v' e1 e2 e3;refine ⟨u',r',?_⟩;rcases q with ⟨k,e⟩ | ⟨k,c,e,z⟩
        · refine .inl ⟨k,?_⟩;have:y≠x:=fun e=>hj (RE hN e1 (e▸hi))
          simp [this,e]
        · exact .inr ⟨k,c,e,z.sameBut hs (cne y c e)⟩
    · obtain ⟨w',z⟩:=I.cell y c e;exact ⟨w',z.sameBut hs (cne y c e)⟩
    · obtain ⟨e,n,ne,nf,d⟩:=I.pin p hp;exact ⟨(hs.2 p.1 ne).trans e,n,ne,nf,d⟩
  · have hfn:X.fn x=true:=by
      rcases hf with z | z
      · exact z
      · rw [z] at hk;cases hk
    obtain ⟨c,hc⟩:=I.ok.has x (.inl hk);obtain ⟨w',z⟩:=I.cell x c hc;refine wpAny_storeName_cell I.ok.kind hk hc z (fun h' hc' hs=>?_);obtain ⟨oc,hoc,hocd⟩:=id z;refine h { s with heap:=h' } ⟨I.ok,I.os,I.bare,⟨fun b o e n hb hx=>?_,fun b o e n hb hx=>?_,I.base.free,fun b o e hx=>?_,I.base.tups,I.base.frzs,I.base.tbls⟩,⟨m,hn.sameBut hs (Ne.symm (cne x c hc)),fun j y v' e1 e2 e3=>?_⟩,fun y c' e=>?_,I.free,I.freeC,fun p hp=>?_,tracked ⟨oc,hoc,I.freeC x c hc⟩ hs,by simpa using I.len⟩ ⟨c,hs,.inr hc⟩
    · exact (hs.2 b (Nat.ne_of_lt (Nat.lt_of_lt_of_le (Heap.lt_size e) (I.ok.cab x c hfn hc)))).trans (I.base.keep b o e n hb hx)
    · obtain ⟨sl,e1⟩:=I.base.slot b o e n hb hx;exact ⟨sl,(hs.2 b (Nat.ne_of_lt (Nat.lt_of_lt_of_le (Heap.lt_size e) (I.ok.cab x c hfn hc)))).trans e1⟩
    · obtain ⟨o',e1⟩:=I.base.there b o e hx;exact ⟨o',(hs.2 b (Nat.ne_of_lt (Nat.lt_of_lt_of_le (Heap.lt_size e) (I.ok.cab x c hfn hc)))).trans e1⟩
    · by_cases hj:j=i
      · subst hj;rw [hi] at e1;cases e1;rw [List.getElem?_set_self hiσ] at e2;cases e2;exact ⟨u,r,.inr ⟨.inl hk,c,hc,hc'⟩⟩
      · rw [List.getElem?_set_ne (Ne.symm hj)] at e2;obtain ⟨u',r',q⟩:=hl j y v' e1 e2 e3;refine ⟨u',r',?_⟩;rcases q with q | ⟨k,c',e,z'⟩
        · exact .inl q
        · refine .inr ⟨k,c',e,z'.sameBut hs ?_⟩;rintro rfl;exact hj (RE hN e1 (I.ok.inj _ _ _ e hc▸hi))
    · by_cases hcc:c'=c
      · subst hcc;exact ⟨_,hc'⟩
      · obtain ⟨w2,z2⟩:=I.cell y c' e;exact ⟨w2,z2.sameBut hs hcc⟩
    · obtain ⟨e,n,ne,nf,d⟩:=I.pin p hp;refine ⟨(hs.2 p.1 ?_).trans e,n,ne,nf,d⟩;intro q;rw [q,hoc] at e;have q':oc=p.2:=Option.some.inj e;exact d w' (by rw [<- q'];exact hocd)
theorem JP {M:Model} {A:Around} {E:Value->Shared->Prop} {i:Nat} {x:Str} {v:V} {u:Value} {Q:Unit->Shared->Prop} (I:Inv X pins σ H s) (hN:X.N.Nodup) (hi:X.N[i]?=some x) (hx:Loc X.env.scope x) (r:RelV v u)
    (h:∀ s',Inv X pins (σ.set i (some v)) H s'->Q () s') (hf:X.fn x=true\/X.env.scope.names.lookup x=some .local:=by first | exact .inl rfl | exact .inr rfl | assumption):wpAny M A (storeName X.env x u) Q E s:=
  Nk I hN hi hx r (fun s' I' _=>h s' I') hf
theorem Inv.call' {s':Shared} {ch:List Addr} (I:Inv X pins σ H s) (ho:s'.os=s.os) (u:Un (Ug X.stack) ch H H' s.heap s'.heap) (hok:Ks X.prog X.w H' s'.heap) (hg:AllBare s'.gens)
    (hch:∀ b∈ch,(b∈X.ex\/X.s₀.heap.objs.size<=b)/\b≠X.env.locals/\(∀ x c,X.env.cells.lookup x=some c->c≠b)/\∀ p∈X.pn++pins,p.1≠b):Inv X pins σ H' s':=by
  obtain ⟨h',g',d',t',o'⟩:=s';have e:o'=s.os:=ho;subst e;exact I.call (g':=g') (t':=t') (d':=d') u hok hg hch
end
abbrev XK:=Value->Option Addr->Hp->Prop
noncomputable abbrev St:=List (Option V)
abbrev VK:=V->Hp->Prop
abbrev TE:=St->Hp->VK->Prop
abbrev TT:=St->Hp->(Bool->Hp->Prop)->Prop
abbrev TA:=St->Hp->(List V->Hp->Prop)->Prop
structure Ends where
 nx:St->Hp->Prop
 rt:VK
 bk:St->Hp->Prop:=fun _ _=>False
 ct:St->Hp->Prop:=fun _ _=>False
abbrev TS:=Ends->St->Hp->Prop
def EP (X:Cx) (pins:List (Addr×Obj)) (σ:St) (Q:VK) (u:Value) (s':Shared):Prop:=∃ v H',Inv X pins σ H' s'/\RelV v u/\Q v H'
def TP (X:Cx) (pins:List (Addr×Obj)) (σ:St) (Q:Bool->Hp->Prop) (b:Bool) (s':Shared):Prop:=∃ H',Inv X pins σ H' s'/\Q b H'
def AP (X:Cx) (pins:List (Addr×Obj)) (σ:St) (Q:List V->Hp->Prop) (us:List Value) (s':Shared):Prop:=∃ vs H',Inv X pins σ H' s'/\Am vs us/\Q vs H'
def SP (X:Cx) (pins:List (Addr×Obj)) (D:Ends) (f:Flow) (s':Shared):Prop:=
 match f with
 | .next=>∃ σ' H',Inv X pins σ' H' s'/\D.nx σ' H'
 | .brk=>∃ σ' H',Inv X pins σ' H' s'/\D.bk σ' H'
 | .cont=>∃ σ' H',Inv X pins σ' H' s'/\D.ct σ' H'
 | .ret u=>∃ v σ' H',Inv X pins σ' H' s'/\RelV v u/\D.rt v H'
def PE (X:Cx) (e:Expr) (t:TE):Prop:=
 ∀ (pins:List (Addr×Obj)) (s:Shared) (σ:St) (H:Hp) (Q:VK),Inv X pins σ H s->t σ H Q->wpAny (model X.prog X.w) X.A (eval e X.env) (EP X pins σ Q) X.xe s
def PT (X:Cx) (e:Expr) (t:TT):Prop:=
 ∀ (pins:List (Addr×Obj)) (s:Shared) (σ:St) (H:Hp) (Q:Bool->Hp->Prop),Inv X pins σ H s->t σ H Q->wpAny (model X.prog X.w) X.A (isTrue e X.env (eval e X.env)) (TP X pins σ Q) X.xe s
def PW (X:Cx) (e:Expr) (t:TT):Prop:=
 ∀ (whole:Sem Value) (pins:List (Addr×Obj)) (s:Shared) (σ:St) (H:Hp) (Q:Bool->Hp->Prop),Inv X pins σ H s->t σ H Q->wpAny (model X.prog X.w) X.A (isTrue e X.env whole) (TP X pins σ Q) X.xe s
theorem PW.pt {X:Cx} {e:Expr} {t:TT} (h:PW X e t):PT X e t:=h _
def PA (X:Cx) (es:List Expr) (t:TA):Prop:=
 ∀ (pos:Pos) (pins:List (Addr×Obj)) (s:Shared) (σ:St) (H:Hp) (Q:List V->Hp->Prop),Inv X pins σ H s->t σ H Q->wpAny (model X.prog X.w) X.A (spliced (backTo pos (starEach es X.env))) (AP X pins σ Q) X.xe s
def PS (X:Cx) (st:Stmt) (t:TS):Prop:=
 ∀ (pins:List (Addr×Obj)) (s:Shared) (σ:St) (H:Hp) (D:Ends),Inv X pins σ H s->t D σ H->wpAny (model X.prog X.w) X.A (exec st X.env) (SP X pins D) X.xe s
def OX (X:Cx) (st:List Stmt) (t:TS):Prop:=
 ∀ (pins:List (Addr×Obj)) (s:Shared) (σ:St) (H:Hp) (D:Ends),Inv X pins σ H s->t D σ H->wpAny (model X.prog X.w) X.A (execs st X.env) (SP X pins D) X.xe s
theorem CQ {α:Type} {t:Sem α} {Q Q':α->Shared->Prop} {M:Model} {A:Around} {E:Value->Shared->Prop} {s:Shared} (h:wpAny M A t Q E s) (hQ:∀ a s,Q a s->Q' a s):wpAny M A t Q' E s:=wpAny_mono h hQ fun _ _ x=>x
section
variable {X:Cx}
theorem bin {a b:Expr} {ta tb:TE} (ha:PE X a ta) (hb:PE X b tb) {pins:List (Addr×Obj)} {s:Shared} {σ:St} {H:Hp} {R:V->V->Hp->Prop} (I:Inv X pins σ H s) (h:ta σ H fun x H1=>tb σ H1 fun y H2=>R x y H2)
    {α:Type} {Q:α->Shared->Prop} {f:Value->Value->Sem α}
    (hf:∀ v u s2 x y H2,Inv X pins σ H2 s2->RelV x v->RelV y u->R x y H2->wpAny (model X.prog X.w) X.A (f v u) Q X.xe s2) :
    wpAny (model X.prog X.w) X.A (eval a X.env) (fun v s₁=>wpAny (model X.prog X.w) X.A (eval b X.env) (fun u s₂=>wpAny (model X.prog X.w) X.A (f v u) Q X.xe s₂) X.xe s₁) X.xe s:=by
  refine CQ (ha pins s σ H _ I h) fun v s1 ⟨x,H1,I1,r1,q1⟩=>?_
  refine CQ (hb pins s1 σ H1 _ I1 q1) fun u s2 ⟨y,H2,I2,r2,q2⟩=>?_
  exact hf v u s2 x y H2 I2 r1 r2 q2
abbrev NK (i:Nat):TE:=fun σ H Q=>∃ v,σ[i]?=some (some v)/\Q v H
abbrev tC (v:V):TE:=fun _ H Q=>Q v H
theorem iJ {i:Nat} {x:Str} {pos:Pos} (hN:X.N[i]?=some x) (hv:pP X.env.scope x) (hd:(x == ("__debug__" : Str))=false:=by decide) (hcd:(x == ("__classdict__" : Str))=false:=by decide):PE X (.Name x pos) (NK i):=by
 intro pins s σ H Q I h;obtain ⟨v,e,h⟩:=h;obtain ⟨m,hn,hl⟩:=I.loc;obtain ⟨u,r,l⟩:=hl i x v hN e hv;have fin:EP X pins σ Q u s:=⟨v,H,I,r,h⟩;rcases l with ⟨hk,hm⟩ | ⟨hk,c,hc,hcell⟩
 ·exact wpAny_Name (wpAny_loadName_local I.ok.kind hk hn hm fin) hd
 ·rcases hk with hk | hk
  ·exact wpAny_Name (wpAny_loadName_cell I.ok.kind hk hc hcell fin) hd
  ·exact wpAny_Name (wpAny_loadName_free I.ok.kind hk hc hcell fin hcd) hd
theorem iP {i j pos}:PE X (.Constant (.int i) j pos) (tC (.int i)):=fun _ _ _ H _ I h=>wpAny_Constant_int ⟨.int i,H,I.tok _,⟨_,rfl⟩,h⟩
theorem lW {b j pos}:PE X (.Constant (.bool b) j pos) (tC (.bl b)):=fun _ _ _ H _ I h=>Constant_bool ⟨.bl b,H,I,rfl,h⟩
theorem iL {x j pos}:PE X (.Constant (.str x) j pos) (tC (.str x)):=fun _ _ _ H _ I h=>Calls.Constant_str ⟨.str x,H,I.tok _,⟨_,rfl⟩,h⟩
def Gl (X:Cx) (x:Str):Prop:=X.env.kindOf x=some .globalImplicit
theorem cX {E:Value->Shared->Prop} {pins:List (Addr×Obj)} {s:Shared} {σ:St} {H:Hp} {x:Str} {u:Value} {pos:Pos} {Q:Value->Shared->Prop} (I:Inv X pins σ H s) (hg:Gl X x) (hm:X.mg x=some u) (h:Q u s)
    (hd:(x == ("__debug__" : Str))=false:=by decide):wpAny (model X.prog X.w) X.A (eval (.Name x pos) X.env) Q E s:=
  Calls.Name_function_global I.ok.kind hg (Calls.loadGlobal_global (by rw [I.ok.glob];exact I.mod.glob.keeps I.bk) hm h) hd
theorem Fb {E:Value->Shared->Prop} {pins:List (Addr×Obj)} {s:Shared} {σ:St} {H:Hp} {x:Str} {u:Value} {pos:Pos} {Q:Value->Shared->Prop} (I:Inv X pins σ H s) (hg:Gl X x) (hm:X.mg x=none) (hv:bootBuiltins x=some u) (h:Q u s)
    (hn:x ≠ "__name__" := by decide) (hd:(x == ("__debug__" : Str))=false:=by decide):wpAny (model X.prog X.w) X.A (eval (.Name x pos) X.env) Q E s:=by
  obtain ⟨mb,h1,h2⟩:=I.mod.blt;exact Calls.Name_function_global I.ok.kind hg (Calls.loadGlobal_builtin (by rw [I.ok.glob];exact I.mod.glob.keeps I.bk) hm (by rw [I.ok.blt];exact h1.keeps I.bk) ((h2 x hn).trans hv) h) hd
theorem GY {x:Str} {v:V} {u:Value} {pos:Pos} (hg:Gl X x) (hm:X.mg x=none) (hv:bootBuiltins x=some u) (r:RelV v u) (hn:x ≠ "__name__" := by decide) (hd:(x == ("__debug__" : Str))=false:=by decide):PE X (.Name x pos) (tC v):=
 fun _ _ _ H _ I h=>Fb I hg hm hv ⟨v,H,I,r,h⟩ hn hd
variable {a b:Expr} {ta tb:TE} {pos:Pos}
variable {tA tB':TT} {rest:List Expr}
abbrev kr (t u:TT):TT:=fun σ H Q=>t σ H fun c H1=>if c=true then u σ H1 Q else Q false H1
abbrev pW (t u:TT):TT:=fun σ H Q=>t σ H fun c H1=>if c=true then Q true H1 else u σ H1 Q
abbrev ng (t:TT):TT:=fun σ H Q=>t σ H fun c H1=>Q (!c) H1
theorem ba (ha:PT X a tA):PW X (.BoolOp .And [a] pos) tA:=by
 intro wh pins s σ H Q I h;refine isTrue_and (CQ (ha pins s σ H Q I h) fun c s1 e=>?_);cases c with
 | true=>exact isTrue_and_nil e
 | false=>exact e
theorem hV (ha:PT X a tA):PW X (.BoolOp .Or [a] pos) tA:=by
 intro wh pins s σ H Q I h;refine isTrue_or (CQ (ha pins s σ H Q I h) fun c s1 e=>?_);cases c with
 | false=>exact isTrue_or_nil e
 | true=>exact e
theorem hW (ha:PT X a tA) (hb:PW X (.BoolOp .And (b::rest) pos) tB'):PW X (.BoolOp .And (a::b::rest) pos) (kr tA tB'):=by
 intro wh pins s σ H Q I h;refine isTrue_and (CQ (ha pins s σ H _ I h) fun c s1 ⟨H1,I1,q1⟩=>?_);cases c with
 | true=>exact hb wh pins s1 σ H1 Q I1 q1
 | false=>exact ⟨H1,I1,q1⟩
theorem lO (ha:PT X a tA) (hb:PW X (.BoolOp .Or (b::rest) pos) tB'):PW X (.BoolOp .Or (a::b::rest) pos) (pW tA tB'):=by
 intro wh pins s σ H Q I h;refine isTrue_or (CQ (ha pins s σ H _ I h) fun c s1 ⟨H1,I1,q1⟩=>?_);cases c with
 | true=>exact ⟨H1,I1,q1⟩
 | false=>exact hb wh pins s1 σ H1 Q I1 q1
theorem hX (ha:PT X a tA):PT X (.UnaryOp .Not a pos) (ng tA):=by
 intro pins s σ H Q I h;exact isTrue_not (ha pins s σ H (fun c H1=>Q (!c) H1) I h)
abbrev kq (ta tb:TE):TE:=fun σ H Q=>ta σ H fun x H1=>∃ c,x=.bl c/\if c=true then tb σ H1 Q else Q (.bl false) H1
abbrev nc (ta tb:TE):TE:=fun σ H Q=>ta σ H fun x H1=>∃ c,x=.bl c/\if c=true then Q (.bl true) H1 else tb σ H1 Q
abbrev kg (ta:TE):TE:=fun σ H Q=>ta σ H fun x H1=>∃ c,x=.bl c/\Q (.bl (!c)) H1
theorem iM {op} {t:TE} (h:PE X a t):PE X (.BoolOp op [a] pos) t:=fun pins s σ H Q I hw=>BoolOp_one (h pins s σ H Q I hw)
theorem iR (ha:PE X a ta) (hb:PE X (.BoolOp .And (b::rest) pos) tb):PE X (.BoolOp .And (a::b::rest) pos) (kq ta tb):=by
 intro pins s σ H Q I h;refine BoolOp_and (CQ (ha pins s σ H _ I h) fun v s1 ⟨x,H1,I1,r1,q1⟩=>?_);obtain ⟨c,rfl,q1⟩:=q1;cases r1;refine wpAny_truthy_bool ?_;cases c with
 | true=>exact hb pins s1 σ H1 Q I1 q1
 | false=>exact ⟨.bl false,H1,I1,rfl,q1⟩
theorem lR (ha:PE X a ta) (hb:PE X (.BoolOp .Or (b::rest) pos) tb):PE X (.BoolOp .Or (a::b::rest) pos) (nc ta tb):=by
 intro pins s σ H Q I h;refine BoolOp_or (CQ (ha pins s σ H _ I h) fun v s1 ⟨x,H1,I1,r1,q1⟩=>?_);obtain ⟨c,rfl,q1⟩:=q1;cases r1;refine wpAny_truthy_bool ?_;cases c with
 | false=>exact hb pins s1 σ H1 Q I1 q1
 | true=>exact ⟨.bl true,H1,I1,rfl,q1⟩
theorem iN (ha:PE X a ta):PE X (.UnaryOp .Not a pos) (kg ta):=by
 intro pins s σ H Q I h;refine UnaryOp_ (CQ (ha pins s σ H _ I h) fun v s1 ⟨x,H1,I1,r1,q1⟩=>?_);obtain ⟨c,rfl,q1⟩:=q1;cases r1;exact not_of (wpAny_truthy_bool ⟨.bl (!c),H1,I1,rfl,q1⟩)
end
def HC (K:W.Frag) (H:Hp) (a:Addr) (xs:List V):Prop:=
 Rd H a (.lst xs) \/
  ∃ (o:Obj) (its:Array Value) (n:Nat),K.lookup a=some o/\o.cls=.type "list" /\ o.dict=none/\o.data=.seq its n/\its.size<=sizeLine/\Am xs its.toList
def IK (K:W.Frag) (H:Hp) (a:Addr) (xs:List V):Prop:=
 Rd H a (.tup xs) \/
  ∃ (o:Obj) (its:Array Value) (n:Nat),K.lookup a=some o/\o.cls=.type "tuple" /\ o.data=.seq its n/\its.size<=sizeLine/\Am xs its.toList
noncomputable def pM:Value->Option V
 | .none=>some .non
 | .bool b=>some (.bl b)
 | .int i _=>some (.int i)
 | .str x _=>some (.str x)
 | .bytes b _=>some (.byt b)
 | .float b _=>some (.flt b)
 | .ref a=>some (.ref a)
 | .type n=>some (.ty n)
 | _=>none
theorem RelV.abs {x:V} {u:Value} (r:RelV x u):pM u=some x:=by
 cases x with
 | non=>cases r;rfl
 | bl _=>cases r;rfl
 | int _=>obtain ⟨t,rfl⟩:=r;rfl
 | str _=>obtain ⟨t,rfl⟩:=r;rfl
 | byt _=>obtain ⟨t,rfl⟩:=r;rfl
 | flt _=>obtain ⟨t,rfl⟩:=r;rfl
 | ref _=>cases r;rfl
 | ty _=>cases r;rfl
theorem RelV.inj {x y:V} {u:Value} (r:RelV x u) (q:RelV y u):x=y:=Option.some.inj (r.abs.symm.trans q.abs)
theorem Am.inj:∀ {xs ys:List V} {us:List Value},Am xs us->Am ys us->xs=ys
 | _,_,_,.nil,.nil=>rfl
 | _,_,_,.cons r t,.cons r' t'=>by rw [r.inj r',Am.inj t t']
section
variable {X:Cx} {pins:List (Addr×Obj)} {σ:St} {H:Hp} {s:Shared} {a:Addr} {xs ys:List V}
theorem Inv.list (I:Inv X pins σ H s) (h:HC X.K H a xs):∃ its:List Value,Am xs its/\PlainL s.heap a its.toArray/\xs.length<=sizeLine:=by
 rcases h with h | ⟨o,its,n,hk,hc,hd,hs,hz,r⟩
 ·obtain ⟨z,its,n,r,e⟩:=h.ok I.hok;exact ⟨its,r,⟨_,n,e,rfl,rfl,rfl⟩,z⟩
 ·refine ⟨its.toList,r,⟨o,n,I.kIn a o hk,hc,hd,by simpa using hs⟩,?_⟩;have e:=r.length;simp only [Array.length_toList] at e;omega
theorem Inv.tuple (I:Inv X pins σ H s) (h:IK X.K H a xs):∃ its:List Value,Am xs its/\IsTup s.heap a its.toArray/\xs.length<=sizeLine:=by
 rcases h with h | ⟨o,its,n,hk,hc,hs,hz,r⟩
 ·obtain ⟨z,its,r,p⟩:=h.ok I.hok;exact ⟨its,r,p.tup,z⟩
 ·refine ⟨its.toList,r,⟨o,I.kIn a o hk,hc,n,by simpa using hs⟩,?_⟩;have e:=r.length;simp only [Array.length_toList] at e;omega
theorem Inv.list_inj (I:Inv X pins σ H s) (h:HC X.K H a xs) (h':HC X.K H a ys):xs=ys:=by
 obtain ⟨its,r,⟨o,n,e,_,_,d⟩,_⟩:=I.list h;obtain ⟨its',r',⟨o',n',e',_,_,d'⟩,_⟩:=I.list h';rw [e] at e';cases e';rw [d] at d';injection d' with d1 _
 have:its=its':=by simpa using congrArg Array.toList d1
 subst this;exact r.inj r'
theorem Inv.tuple_inj (I:Inv X pins σ H s) (h:IK X.K H a xs) (h':IK X.K H a ys):xs=ys:=by
 obtain ⟨its,r,⟨o,e,_,n,d⟩,_⟩:=I.tuple h;obtain ⟨its',r',⟨o',e',_,n',d'⟩,_⟩:=I.tuple h';rw [e] at e';cases e';rw [d] at d';injection d' with d1 _
 have:its=its':=by simpa using congrArg Array.toList d1
 subst this;exact r.inj r'
end
noncomputable abbrev Cx.wish (X:Cx) (E:Value->Shared->Prop):Cx:={ X with xe:=E }
noncomputable abbrev Cx.nox (X:Cx):Cx:=X.wish fun _ _=>False
theorem Cx.Ok.wish {X:Cx} (ok:X.Ok) (E:Value->Shared->Prop):(X.wish E).Ok:=
 ⟨ok.mod,ok.kind,ok.glob,ok.blt,ok.above,ok.inj,ok.has,ok.cab,ok.hd,ok.frames,ok.stk,ok.exf,ok.bs,ok.bsz,ok.noex,ok.exfs,ok.funs,ok.frf⟩
theorem Cx.Ok.unwish {X:Cx} {E:Value->Shared->Prop} (ok:(X.wish E).Ok):X.Ok:=
 ⟨ok.mod,ok.kind,ok.glob,ok.blt,ok.above,ok.inj,ok.has,ok.cab,ok.hd,ok.frames,ok.stk,ok.exf,ok.bs,ok.bsz,ok.noex,ok.exfs,ok.funs,ok.frf⟩
section
variable {X:Cx} {pins:List (Addr×Obj)} {σ:St} {H:Hp} {s:Shared} {E:Value->Shared->Prop}
theorem Inv.wish (I:Inv X pins σ H s) (E:Value->Shared->Prop):Inv (X.wish E) pins σ H s:=⟨I.ok.wish E,I.os,I.bare,I.base,I.loc,I.cell,I.free,I.freeC,I.pin,I.hok,I.len⟩
theorem Inv.unwish (I:Inv (X.wish E) pins σ H s):Inv X pins σ H s:=⟨I.ok.unwish,I.os,I.bare,I.base,I.loc,I.cell,I.free,I.freeC,I.pin,I.hok,I.len⟩
theorem SP.unwish {D:Ends} {f:Flow} {s':Shared} (h:SP (X.wish E) pins D f s'):SP X pins D f s':=by
 cases f with
 | next=>obtain ⟨σ',H',I,q⟩:=h;exact ⟨σ',H',I.unwish,q⟩
 | brk=>obtain ⟨σ',H',I,q⟩:=h;exact ⟨σ',H',I.unwish,q⟩
 | cont=>obtain ⟨σ',H',I,q⟩:=h;exact ⟨σ',H',I.unwish,q⟩
 | ret u=>obtain ⟨v,σ',H',I,r,q⟩:=h;exact ⟨v,σ',H',I.unwish,r,q⟩
theorem OX.nox {st:List Stmt} {t:TS} (h:OX X.nox st t):OX X st t:=fun pins s σ H D I hw =>
 wpAny_mono (h pins s σ H D (I.wish _) hw) (fun _ _ q=>q.unwish) fun _ _ z=>False.elim z
end
section
variable {X:Cx} {st:Stmt} {rest:List Stmt} {t u:TS} {e:Expr} {te:TE} {pos:Pos}
abbrev kj:TS:=fun D σ H=>D.nx σ H
abbrev nX (t u:TS):TS:=fun D σ H=>t { D with nx:=u D } σ H
theorem bf:OX X [] kj:=fun _ _ σ H _ I h=>wpAny_execs_nil ⟨σ,H,I,h⟩
theorem Xh (h1:PS X st t) (h2:OX X rest u):OX X (st::rest) (nX t u):=by
 intro pins s σ H D I h;refine wpAny_execs_cons (CQ (h1 pins s σ H { D with nx:=u D } I h) fun f s1 q=>?_);cases f with
 | next =>
  obtain ⟨σ',H',I',q⟩:=q;exact h2 pins s1 σ' H' D I' q
 | ret v=>exact q
 | brk=>exact q
 | cont=>exact q
theorem bc (h1:PS X st t):OX X [st] t:=by
 intro pins s σ H D I h;refine wpAny_execs_cons (CQ (h1 pins s σ H D I h) fun f s1 q=>?_);cases f with
 | next=>exact wpAny_execs_nil q
 | ret v=>exact q
 | brk=>exact q
 | cont=>exact q
theorem Inv.quiet {pins:List (Addr×Obj)} {σ:St} {H:Hp} {s:Shared} (I:Inv X pins σ H s):interactive X.env=false:=by simp [interactive,I.ok.kind]
abbrev km (te:TE):TS:=fun D σ H=>te σ H fun _ H1=>D.nx σ H1
theorem bg (he:PE X e te) (hs:swapsWith e none pos.line X.env=pure false:=by rfl):PS X (.Expr e pos) (km te):=by
 intro pins s σ H D I h;exact wpAny_Expr_any (CQ (he pins s σ H _ I h) fun v s1 ⟨x,H1,I1,r1,q1⟩=>⟨σ,H1,I1,q1⟩) I.quiet hs
abbrev nY (te:TE):TS:=fun D σ H=>te σ H D.rt
theorem iA (he:PE X e te):PS X (.Return (some e) pos) (nY te):=by
 intro pins s σ H D I h;exact wpAny_Return_some (CQ (he pins s σ H _ I h) fun v s1 ⟨x,H1,I1,r1,q1⟩=>⟨x,σ,H1,I1,r1,q1⟩)
abbrev ni (c:TT) (t u:TS):TS:=fun D σ H=>c σ H fun b H1=>if b=true then t D σ H1 else u D σ H1
theorem lP {c:Expr} {a b:List Stmt} {tc:TT} (hc:PT X c tc) (ha:OX X a t) (hb:OX X b u):PS X (.If c a b pos) (ni tc t u):=by
 intro pins s σ H D I h;refine wpAny_If (CQ (hc pins s σ H _ I h) fun d s1 ⟨H1,I1,q1⟩=>?_);cases d with
 | true=>exact ha pins s1 σ H1 D I1 q1
 | false=>exact hb pins s1 σ H1 D I1 q1
end
abbrev TG:=V->St->Hp->(St->Hp->Prop)->Prop
abbrev VC:=List V->St->Hp->(St->Hp->Prop)->Prop
def PG (X:Cx) (target:Expr) (t:TG):Prop:=
 ∀ (pins:List (Addr×Obj)) (s:Shared) (σ:St) (H:Hp) (v:V) (u:Value) (Q:St->Hp->Prop),Inv X pins σ H s->RelV v u->t v σ H Q ->
  wpAny (model X.prog X.w) X.A (assign target X.env u) (fun _ s'=>∃ σ' H',Inv X pins σ' H' s'/\Q σ' H') X.xe s
def mx (X:Cx) (ts:List Expr) (t:VC):Prop:=
 ∀ (pins:List (Addr×Obj)) (s:Shared) (σ:St) (H:Hp) (vs:List V) (us:List Value) (Q:St->Hp->Prop),Inv X pins σ H s->Am vs us->t vs σ H Q ->
  wpAny (model X.prog X.w) X.A (assignInOrder ((assignEach ts X.env).map (·.2)) us) (fun _ s'=>∃ σ' H',Inv X pins σ' H' s'/\Q σ' H') X.xe s
abbrev kC:=V->V->V->Hp->(Hp->Prop)->Prop
def kF (X:Cx) (t:kC):Prop:=
 ∀ (pins:List (Addr×Obj)) (s:Shared) (σ:St) (H:Hp) (o i v:V) (ov iv u:Value) (Q:Hp->Prop),Inv X pins σ H s->RelV o ov->RelV i iv->RelV v u->t o i v H Q ->
  wpAny (model X.prog X.w) X.A (setItem ov iv u) (fun _ s'=>∃ H',Inv X pins σ H' s'/\Q H') X.xe s
section
variable {X:Cx} {pos:Pos}
abbrev MP (i:Nat):TG:=fun v σ H Q=>Q (σ.set i (some v)) H
theorem AJ {i:Nat} {x:Str} (hN:X.N.Nodup) (hi:X.N[i]?=some x) (hx:Loc X.env.scope x) (hf:X.fn x=true\/X.env.scope.names.lookup x=some .local:=by first | exact .inl rfl | exact .inr rfl | assumption):PG X (.Name x pos) (MP i):=by
 intro pins s σ H v u Q I r h;exact wpAny_assign_Name (JP I hN hi hx r (fun s' I'=>⟨_,H,I',h⟩) hf)
abbrev jS:VC:=fun vs σ H Q=>vs=[]/\Q σ H
abbrev ZY (t:TG) (u:VC):VC:=fun vs σ H Q=>∃ v r,vs=v::r/\t v σ H fun σ' H'=>u r σ' H' Q
theorem Ef:mx X [] jS:=by
 intro pins s σ H vs us Q I r h;obtain ⟨e,h⟩:=h;subst e;cases r;exact assignInOrder_nil ⟨σ,H,I,h⟩
theorem BC {e:Expr} {es:List Expr} {t:TG} {u:VC} (h1:PG X e t) (h2:mx X es u)
    (hs:(assignEach (e::es) X.env).map (·.2)=assign e X.env::(assignEach es X.env).map (·.2):=by rfl):mx X (e::es) (ZY t u):=by
  intro pins s σ H vs us Q I r h;obtain ⟨v,vr,e1,h⟩:=h;subst e1;cases r with
  | cons r rr =>
    rw [hs];refine assignInOrder_cons (CQ (h1 pins s σ H _ _ _ I r h) fun _ s1 ⟨σ1,H1,I1,q1⟩=>?_);exact h2 pins s1 σ1 H1 _ _ Q I1 rr q1
abbrev cb (K:W.Frag) (n:Nat) (t:VC):TG:=fun v σ H Q=>∃ a xs,v=.ref a/\IK K H a xs/\xs.length=n/\t xs σ H Q
theorem iH {es:List Expr} {k:Nat} {t:VC} {n:Nat} (hc:X.calm=true) (h:mx X es t)
    (hn:(assignEach es X.env).length=n:=by rfl) (hst:(assignEach es X.env).findIdx? (·.1)=none:=by rfl):PG X (.Tuple es k pos) (cb X.K n t):=by
  intro pins s σ H v u Q I r hw;obtain ⟨a,xs,e1,hq,hl,hw⟩:=hw;subst e1;cases r;obtain ⟨its,rv,ht,hz⟩:=I.tuple hq;refine assign_Tuple_tuple (I.ok.hd hc) ht (by simp [hn,<- hl,rv.length]) hst fun h' hx=>?_
  have I1:Inv X pins σ H { s with heap:=h' }:=I.kept (t':=s.toks) fun b o e=>hx b o (Nat.ne_of_lt (Heap.lt_size e)) e
  exact h pins _ σ H xs _ Q I1 (by simpa using rv) hw
abbrev mU (to ti:TE) (t:kC):TG:=fun v σ H Q=>to σ H fun o H1=>ti σ H1 fun i H2=>t o i v H2 fun H3=>Q σ H3
theorem iI {o i:Expr} {to ti:TE} {t:kC} (ho:PE X o to) (hi:PE X i ti) (hs:kF X t)
    (ha:∀ v,assign (.Subscript o i pos) X.env v=(do
      let ov <- holding [v] (eval o X.env)
      let iv <- holding [v,ov] (eval i X.env)
      standAt pos
      holding [v,ov,iv] (setItem ov iv v)
      release [v,ov,iv] []):=by intro _;rfl):PG X (.Subscript o i pos) (mU to ti t):=by
  intro pins s σ H v u Q I r h;rw [ha];refine wpAny_bind (wpAny_holding (CQ (ho pins s σ H _ I h) fun ov s1 ⟨x,H1,I1,r1,q1⟩=>?_));refine wpAny_bind (wpAny_holding (CQ (hi pins s1 σ H1 _ I1 q1) fun iv s2 ⟨y,H2,I2,r2,q2⟩=>?_));refine wpAny_bind (wpAny_standAt (wpAny_bind (wpAny_holding (CQ (hs pins s2 σ H2 x y v ov iv u _ I2 r1 r2 r q2) fun _ s3 ⟨H3,I3,q3⟩=>?_))));exact wpAny_release ⟨σ,H3,I3,q3⟩
abbrev XC (te:TE) (g:TG):TS:=fun D σ H=>te σ H fun x H1=>g x σ H1 D.nx
theorem Xk {tg e:Expr} {te:TE} {g:TG} (he:PE X e te) (hg:PG X tg g) (hs:swapsWithSole [tg] e pos.line X.env=pure false:=by rfl) (hw:swappedStores [tg] e X.env=pure none:=by rfl)
    (h1:(assignEach [tg] X.env).map (·.2)=[assign tg X.env]:=by rfl):PS X (.Assign [tg] e pos) (XC te g):=by
  intro pins s σ H D I h;refine wpAny_Assign_stores (CQ (he pins s σ H _ I h) fun v s1 ⟨x,H1,I1,r1,q1⟩=>?_) hs hw;rw [h1];exact CQ (hg pins s1 σ H1 x v _ I1 r1 q1) fun _ s2 q=>q
theorem hZ {i:Nat} {x:Str} {e:Expr} {te:TE} {pos':Pos} (hN:X.N.Nodup) (hi:X.N[i]?=some x) (hx:Loc X.env.scope x) (he:PE X e te) (hs:swapsWith e (some (.Name x pos')) pos.line X.env=pure false:=by rfl) (hf:X.fn x=true\/X.env.scope.names.lookup x=some .local:=by first | exact .inl rfl | exact .inr rfl | assumption) :
    PS X (.Assign [.Name x pos'] e pos) (XC te (MP i)):=by
  intro pins s σ H D I h;refine wpAny_Assign_Name (CQ (he pins s σ H _ I h) fun v s1 ⟨y,H1,I1,r1,q1⟩=>?_) hs;exact JP I1 hN hi hx r1 (fun s2 I2=>⟨_,H1,I2,q1⟩) hf
abbrev nZ (i j:Nat) (ta:TA):TS:=fun D σ H=>ta σ H fun vs H1=>∃ v w,vs=[v,w]/\D.nx ((σ.set i (some v)).set j (some w)) H1
theorem iB {i j:Nat} {x y:Str} {a b:Expr} {ta:TA} {px py pt:Pos} {kt k2 pt2} (hc:X.calm=true) (hN:X.N.Nodup) (hi:X.N[i]?=some x) (hj:X.N[j]?=some y) (hij:i≠j)
    (hx:X.env.scope.names.lookup x=some .local) (hy:X.env.scope.names.lookup y=some .local) (ha:PA X [a,b] ta)
    (hw:swappedStores [.Tuple [.Name x px,.Name y py] kt pt] (.Tuple [a,b] k2 pt2) X.env=pure (some [x,y]))
    (hs:swapsWithSole [.Tuple [.Name x px,.Name y py] kt pt] (.Tuple [a,b] k2 pt2) pos.line X.env=pure false:=by rfl) :
    PS X (.Assign [.Tuple [.Name x px,.Name y py] kt pt] (.Tuple [a,b] k2 pt2) pos) (nZ i j ta):=by
  intro pins s σ H D I h;rw [exec_Assign_arm];refine wpAny_bind (wpAny_standAt ?_);rw [hs];refine wpAny_bind (wpAny_pure ?_);rw [if_neg (by decide)];refine wpAny_bind (Tuple_ (CQ (ha _ pins s σ H _ I h) fun us s1 ⟨vs,H1,I1,r1,q1⟩=>?_));obtain ⟨v,w,e1,q1⟩:=q1;subst e1;obtain ⟨u1,u2,rfl,rv,rw'⟩:∃ u1 u2,us=[u1,u2]/\RelV v u1/\RelV w u2:=by
    cases r1 with
    | cons p q =>
      cases q with
      | cons p' q' =>
        cases q';exact ⟨_,_,rfl,p,p'⟩
  refine wpAny_newObj_type ?_ (by show 2<=sizeLine;decide)
  have I2:Inv X pins σ H1 { s1 with heap:=s1.heap.push { cls:=.type "tuple", data:=.seq [u1,u2].toArray } }:=I1.kept (t':=s1.toks) fun b o e=>Heap.get?_push_of_some _ e
  rw [hw];refine wpAny_bind (wpAny_pure ?_)
  show wpAny (model X.prog X.w) X.A (do rule "assign.swapped-stores"; let items <- unpackItems (.ref s1.heap.objs.size) 2 none;assignInOrder [fun v=>bindName X.env y v,fun v=>bindName X.env x v] items.reverse;pure Flow.next) _ _ _
  refine wpAny_bind (wpAny_rule (wpAny_bind (unpackItems_tuple (items:=#[u1,u2]) (I.ok.hd hc) (IsTup.new s1.heap _) fun h' hx'=>?_)));have I3:=I2.kept (h':=h') (t':=s1.toks) fun b o e=>hx' b o (Nat.ne_of_lt (Heap.lt_size e)) e
  show wpAny _ _ (assignInOrder [fun v=>bindName X.env y v,fun v=>bindName X.env x v] [u2,u1] >>= fun _=>pure Flow.next) _ _ _;refine wpAny_bind (assignInOrder_cons (wpAny_bindName (JP I3 hN hj (.inl hy) rw' (fun s2 I4=>?_) (.inr hy))));refine assignInOrder_cons (wpAny_bindName (JP I4 hN hi (.inl hx) rv (fun s3 I5=>assignInOrder_nil (wpAny_pure ?_)) (.inr hx)));rw [List.set_comm _ _ (Ne.symm hij)] at I5;exact ⟨_,H1,I5,q1⟩
end
section
variable {X:Cx} {pos:Pos}
def gh (c:TT) (tb:TS):TS:=fun D σ H=>∃ W:Nat->St->Hp->Prop,(∃ m,W m σ H)/\∀ m σ H,W m σ H ->
 c σ H fun b H1=>if b=true then ∃ N:St->Hp->Prop,(∀ σ' H',N σ' H'->∃ m',m' < m/\W m' σ' H')/\tb { D with nx:=N,ct:=N,bk:=D.nx } σ H1 else D.nx σ H1
theorem Xi {c:Expr} {body:List Stmt} {tc:TT} {tb:TS} (hp:PassesOwn (model X.prog X.w) X.A X.env X.xe) (hc:PT X c tc) (hb:OX X body tb):PS X (.While c body [] pos) (gh tc tb):=by
 intro pins s σ H D I h;obtain ⟨W,⟨m0,w0⟩,turn⟩:=h;refine wpAny_While (codeAny_whileLoop (fun n s'=>∃ σ' H',Inv X pins σ' H' s'/\W n σ' H') ?_ m0 ⟨σ,H,I,w0⟩);rintro n s1 ⟨σ1,H1,I1,w1⟩;refine wpAny_passesOwn hp (CQ (hc pins s1 σ1 H1 _ I1 (turn n σ1 H1 w1)) fun b s2 ⟨H2,I2,q2⟩=>?_);cases b with
 | true =>
  obtain ⟨N,hN,q2⟩:=q2;rw [if_pos rfl];refine wpAny_passesOwn hp (CQ (hb pins s2 σ1 H2 _ I2 q2) fun f s3 q3=>?_);cases f with
  | next =>
   obtain ⟨σ3,H3,I3,n3⟩:=q3;obtain ⟨m',hm,w3⟩:=hN σ3 H3 n3;exact ⟨m',hm,σ3,H3,I3,w3⟩
  | cont =>
   obtain ⟨σ3,H3,I3,n3⟩:=q3;obtain ⟨m',hm,w3⟩:=hN σ3 H3 n3;exact ⟨m',hm,σ3,H3,I3,w3⟩
  | brk=>exact q3
  | ret v=>exact q3
 | false =>
  rw [if_neg Bool.false_ne_true];exact wpAny_execs_nil ⟨σ1,H2,I2,q2⟩
end
structure It where
 go:Nat->Hp->Prop
 yld:Nat->Hp->V->Hp->Prop
 stop:Nat->Hp->Prop
def FpOk (X:Cx) (pins:List (Addr×Obj)) (H:Hp) (b:Addr):Prop:=
 H b=none/\b≠X.env.locals/\b∉X.fs/\(b∈X.ex\/X.s₀.heap.objs.size<=b)/\(∀ x c,X.env.cells.lookup x=some c->c≠b)/\∀ p∈X.pn++pins,p.1≠b
theorem Inv.fpOk {X:Cx} {pins:List (Addr×Obj)} {σ:St} {H H':Hp} {s:Shared} {b:Addr} (I:Inv X pins σ H s) (hb:s.heap.objs.size<=b) (hn:H' b=none):FpOk X pins H' b:=by
 refine ⟨hn,Nat.ne_of_gt (Nat.lt_of_lt_of_le I.lt hb),I.nofs hb,.inr (Nat.le_trans I.sz hb),fun x c e z=>?_,fun p hp z=>?_⟩
 ·obtain ⟨v,q⟩:=I.cell x c e;exact absurd (Nat.lt_of_lt_of_le q.lt (by rw [z];exact hb)) (Nat.lt_irrefl _)
 ·exact absurd (Nat.lt_of_lt_of_le (Heap.lt_size (I.pin p hp).1) (by rw [z];exact hb)) (Nat.lt_irrefl _)
structure Turn (P:Program) (w:World) (K:W.Frag) (tg:Expr) (J:It) (fp:List Addr) (it:Addr) (tn:Nat->Heap->Prop):Prop where
 mem:it∈fp
 obj:∀ i h,tn i h->∀ b∈fp,∃ o,h.get? b=some o/\∀ v,o.data≠.cell v
 keep:∀ i h h',tn i h->(∀ b∈fp,∀ o,h.get? b=some o->h'.get? b=some o)->tn i h'
 item:∀ (X:Cx),X.prog=P->X.w=w->X.K=K->X.calm=true->∀ (i:Nat) (pins:List (Addr×Obj)) (s:Shared) (σ:St) (H:Hp) (E:Value->Shared->Prop),Inv X pins σ H s->(∀ b∈fp,FpOk X pins H b)->tn i s.heap->J.go i H ->
  wpAny (model P w) X.A (pyNext (.ref it)) (fun r s1=>∃ u,r=some u /\
   wpAny (model P w) X.A (letOwnedTupleGo tg (.ref it) u) (fun _ s2=>∃ x H',Inv X pins σ H' s2/\RelV x u/\J.yld i H x H'/\tn (i+1) s2.heap/\∀ b∈fp,H' b=none) E s1) E s
 done:∀ (X:Cx),X.prog=P->X.w=w->X.K=K->X.calm=true->∀ (i:Nat) (pins:List (Addr×Obj)) (s:Shared) (σ:St) (H:Hp) (E:Value->Shared->Prop),Inv X pins σ H s->(∀ b∈fp,FpOk X pins H b)->tn i s.heap->J.stop i H ->
  wpAny (model P w) X.A (pyNext (.ref it)) (fun r s1=>r=none/\Inv X pins σ H s1) E s
 self:∀ (A:Around) (i:Nat) (s:Shared) (Q:Value->Shared->Prop) (E:Value->Shared->Prop),tn i s.heap->Q (.ref it) s->wpAny (model P w) A (pyIter (.ref it)) Q E s
abbrev TI:=St->Hp->(It->Hp->Prop)->Prop
def qZ (X:Cx) (pins:List (Addr×Obj)) (σ:St) (tg:Expr) (R:It->Hp->Prop) (itv:Value) (s2:Shared):Prop:=
 ∃ (it:Addr) (fp:List Addr) (tn:Nat->Heap->Prop) (J:It) (H':Hp),itv=.ref it/\Inv X pins σ H' s2/\Turn X.prog X.w X.K tg J fp it tn/\tn 0 s2.heap/\(∀ b∈fp,FpOk X pins H' b)/\R J H'
def PI (X:Cx) (tg iter:Expr) (wi:TI):Prop:=
 ∀ (pins:List (Addr×Obj)) (s:Shared) (σ:St) (H:Hp) (R:It->Hp->Prop),Inv X pins σ H s->wi σ H R ->
  wpAny (model X.prog X.w) X.A (eval iter X.env) (fun v s1=>wpAny (model X.prog X.w) X.A (pyIter v) (qZ X pins σ tg R) X.xe s1) X.xe s
theorem Ue {M:Model} {A:Around} {E:Value->Shared->Prop} {s:Shared} {tg:Expr} {it:Addr} {u:Value} {o:Obj} {n:String} {vs:Array Value} {Q:Unit->Shared->Prop} (ho:s.heap.get? it=some o) (hc:o.cls=.type n) (hd:o.data=.fields vs)
    (hn:["enumerate", "zip", "dict_itemiterator", "dict_reverseitemiterator", "odict_iterator", "itertools.zip_longest", "itertools.pairwise"].contains n=false) (hQ:Q () s):wpAny M A (letOwnedTupleGo tg (.ref it) u) Q E s:=by
  unfold letOwnedTupleGo;cases tg<;>first
    | exact wpAny_pure hQ
    | (cases u<;>first
        | exact wpAny_pure hQ
        | (refine wpAny_bind (wpAny_load ho ?_)
           rw [hc,hd]
           show wpAny M A (if (["enumerate", "zip", "dict_itemiterator", "dict_reverseitemiterator", "odict_iterator", "itertools.zip_longest", "itertools.pairwise"].contains n && vs[0]? == some (rawInt _))=true then _ else _) Q E s
           rw [if_neg (by intro h;rw [hn,Bool.false_and] at h;cases h)];exact wpAny_pure hQ))
noncomputable def nV (K:W.Frag) (a:Addr):It:=
 ⟨fun i H=>∃ xs x,HC K H a xs/\xs[i]?=some x,fun i H x H'=>H'=H/\∀ xs,HC K H a xs->xs[i]?=some x,fun i H=>∃ xs,HC K H a xs/\xs.length<=i⟩
noncomputable def pR (K:W.Frag) (a:Addr):It:=
 ⟨fun i H=>∃ xs x,IK K H a xs/\xs[i]?=some x,fun i H x H'=>H'=H/\∀ xs,IK K H a xs->xs[i]?=some x,fun i H=>∃ xs,IK K H a xs/\xs.length<=i⟩
noncomputable def nA (lo:Int) (n:Nat):It:=⟨fun i _=>i < n,fun i H x H'=>H'=H/\x=.int (lo+i),fun i _=>n<=i⟩
theorem VJ {P:Program} {w:World} {K:W.Frag} {tg:Expr} (a it:Addr):Turn P w K tg (nV K a) [it] it (fun i h=>h.IsListIter it a i) where
 mem:=by simp
 obj:=fun i h st b hb=>by
  have e:b=it:=by simpa using hb
  subst e;obtain ⟨o,e,c,d⟩:=st;exact ⟨o,e,fun v z=>by rw [d] at z;cases z⟩
 keep:=fun i h h' st k=>st.at fun o e=>k it (by simp) o e
 item:=by
  intro X hP hw hK hc i pins s σ H E I hf st hg;subst hP hw hK;obtain ⟨xs,x,hq,hx⟩:=hg;obtain ⟨its,rv,p,hz⟩:=I.list hq;obtain ⟨u,hu,ru⟩:=rv.get hx;obtain ⟨f0,f1,f2,f3,f4,f5⟩:=hf it (by simp);refine wpAny_pyNext_list_item st p.isList (x:=u) (by simpa using hu) fun h' st' sb=>?_
  have I1:Inv X pins σ H { s with heap:=h' }:=I.turned (t':=s.toks) (fun b o hb e=>(sb.2 b hb).trans e) f0 f1 f3 f4 f5;obtain ⟨o,e,c,d⟩:=id st';exact ⟨u,rfl,Ue (s:={ s with heap:=h' }) e c d (by decide) ⟨x,H,I1,ru,⟨rfl,fun ys hy=>by rw [I.list_inj hy hq];exact hx⟩,st',fun b hb=>(hf b hb).1⟩⟩
 done:=by
  intro X hP hw hK hc i pins s σ H E I hf st hg;subst hP hw hK;obtain ⟨xs,hq,hx⟩:=hg;obtain ⟨its,rv,p,hz⟩:=I.list hq;obtain ⟨f0,f1,f2,f3,f4,f5⟩:=hf it (by simp);have hl:=rv.length;exact wpAny_pyNext_list_end (I.ok.hd hc) st p.isList (by simp;omega) fun h' eb=>⟨rfl,I.turned (t':=s.toks) (fun b o hb e=>eb b o hb e) f0 f1 f3 f4 f5⟩
 self:=fun _ _ _ _ _ st h=>wpAny_pyIter_listiter st h
theorem SM {P:Program} {w:World} {K:W.Frag} {tg:Expr} (a it:Addr):Turn P w K tg (pR K a) [it] it (fun i h=>h.IsTupleIter it a i) where
 mem:=by simp
 obj:=fun i h st b hb=>by
  have e:b=it:=by simpa using hb
  subst e;obtain ⟨o,e,c,d⟩:=st;exact ⟨o,e,fun v z=>by rw [d] at z;cases z⟩
 keep:=fun i h h' st k=>st.at fun o e=>k it (by simp) o e
 item:=by
  intro X hP hw hK hc i pins s σ H E I hf st hg;subst hP hw hK;obtain ⟨xs,x,hq,hx⟩:=hg;obtain ⟨its,rv,p,hz⟩:=I.tuple hq;obtain ⟨u,hu,ru⟩:=rv.get hx;obtain ⟨f0,f1,f2,f3,f4,f5⟩:=hf it (by simp);refine wpAny_pyNext_tuple_item st (show s.heap.IsTuple a its.toArray from p) (x:=u) (by simpa using hu) fun h' st' sb=>?_
  have I1:Inv X pins σ H { s with heap:=h' }:=I.turned (t':=s.toks) (fun b o hb e=>(sb.2 b hb).trans e) f0 f1 f3 f4 f5;obtain ⟨o,e,c,d⟩:=id st';exact ⟨u,rfl,Ue (s:={ s with heap:=h' }) e c d (by decide) ⟨x,H,I1,ru,⟨rfl,fun ys hy=>by rw [I.tuple_inj hy hq];exact hx⟩,st',fun b hb=>(hf b hb).1⟩⟩
 done:=by
  intro X hP hw hK hc i pins s σ H E I hf st hg;subst hP hw hK;obtain ⟨xs,hq,hx⟩:=hg;obtain ⟨its,rv,p,hz⟩:=I.tuple hq;obtain ⟨f0,f1,f2,f3,f4,f5⟩:=hf it (by simp);have hl:=rv.length;exact wpAny_pyNext_tuple_end (I.ok.hd hc) st (show s.heap.IsTuple a its.toArray from p) (by simp;omega) fun h' eb=>⟨rfl,I.turned (t':=s.toks) (fun b o hb e=>eb b o hb e) f0 f1 f3 f4 f5⟩
 self:=fun _ _ _ _ _ st h=>wpAny_pyIter_tupleiter st h
theorem SN {P:Program} {w:World} {K:W.Frag} {tg:Expr} (it:Addr) (lo:Int) (n:Nat):Turn P w K tg (nA lo n) [it] it (fun i h=>IsRangeIter h it (lo+(i:Nat) * 1) ((n:Int) - (i:Nat)) 1) where
 mem:=by simp
 obj:=fun i h st b hb=>by
  have e:b=it:=by simpa using hb
  subst e;exact ⟨_,st,fun v z=>by
   have z':Data.fields _=Data.cell v:=z;cases z'⟩
 keep:=fun i h h' st k=>k it (by simp) _ st
 item:=by
  intro X hP hw hK hc i pins s σ H E I hf st hg;subst hP hw hK;obtain ⟨f0,f1,f2,f3,f4,f5⟩:=hf it (by simp);have W:=Walks.range (prog:=X.prog) (w:=X.w) (I.ok.hd hc) it lo 1 n;refine W.item i s _ _ hg st fun v h' tk hv st' kk=>?_
  obtain ⟨t,rfl⟩:=hv;have I1:Inv X pins σ H { s with heap:=h',toks:=tk }:=I.turned (fun b o hb e=>kk b o (by simpa using hb) e) f0 f1 f3 f4 f5
  refine ⟨_,rfl,Ue (s:={ s with heap:=h',toks:=tk }) (n := "range_iterator") st' rfl rfl (by decide) ⟨.int (lo+i),H,I1,⟨t,?_⟩,⟨rfl,rfl⟩,st',fun b hb=>(hf b hb).1⟩⟩
  rw [Int.mul_one]
 done:=by
  intro X hP hw hK hc i pins s σ H E I hf st hg;subst hP hw hK;obtain ⟨f0,f1,f2,f3,f4,f5⟩:=hf it (by simp);exact wpAny_pyNext_range_end (I.ok.hd hc) st (by have:n<=i:=hg;omega) fun h' eb=>⟨rfl,I.turned (t':=s.toks) (fun b o hb e=>eb b o hb e) f0 f1 f3 f4 f5⟩
 self:=fun _ _ _ _ _ st h=>wpAny_pyIter_rangeiter st h
section
variable {X:Cx} {tg:Expr}
theorem Qp {pins:List (Addr×Obj)} {σ:St} {H:Hp} {s:Shared} {R:It->Hp->Prop} {E:Value->Shared->Prop} {lo hi:Int} {t u v:Tok} {tk:Nat} (I:Inv X pins σ H s) (h1:-(2 ^ 62)<=lo) (h2:lo < 2 ^ 62) (h3:-(2 ^ 62)<=hi) (h4:hi < 2 ^ 62)
    (q:R (nA lo (hi - lo).toNat) H):wpAny (model X.prog X.w) X.A (pyIter (.ref s.heap.objs.size)) (qZ X pins σ tg R) E { s with heap:=s.heap.push { cls:=.type "range", data:=.fields #[.int lo t,.int hi u,.int 1 v] },toks:=tk }:=by
  refine wpAny_pyIter_range (IsRange.new ..) (small_one h1 h2 h3 h4) ?_
  have I1:Inv X pins σ H { s with heap:=s.heap.push { cls:=.type "range", data:=.fields #[.int lo t,.int hi u,.int 1 v] },toks:=tk }:=I.kept fun b o e=>Heap.get?_push_of_some _ e
  refine ⟨(s.heap.push { cls:=.type "range", data:=.fields #[.int lo t,.int hi u,.int 1 v] }).objs.size,[(s.heap.push { cls:=.type "range", data:=.fields #[.int lo t,.int hi u,.int 1 v] }).objs.size],_,_,H,rfl,
    I1.kept (t':=tk) fun b o e=>Heap.get?_push_of_some _ e,SN _ lo (hi - lo).toNat,?_,fun b hb=>?_,q⟩
  · have e1:lo+((0:Nat):Int) * 1=lo:=by simp
    have e2:(((hi - lo).toNat:Nat):Int) - ((0:Nat):Int)=Builtin.Range.rangeSize lo hi 1:=by rw [rangeSize_one];split<;>omega
    show IsRangeIter _ _ (lo+((0:Nat):Int) * 1) ((((hi - lo).toNat:Nat):Int) - ((0:Nat):Int)) 1;rw [e1,e2];exact Heap.get?_push_size _ rfl
  · have e:b=(s.heap.push { cls:=.type "range", data:=.fields #[.int lo t,.int hi u,.int 1 v] }).objs.size:=by simpa using hb
    subst e;exact I1.fpOk (Nat.le_refl _) (I1.hok.fresh (Nat.le_refl _))
abbrev mS (ta:TA):TI:=fun σ H R=>ta σ H fun vs H1=>∃ j:Int,vs=[.int j]/\-(2 ^ 62)<=j/\j < 2 ^ 62/\R (nA 0 j.toNat) H1
abbrev mR (ta:TA):TI:=fun σ H R=>ta σ H fun vs H1=>∃ i j:Int,vs=[.int i,.int j]/\(-(2 ^ 62)<=i/\i < 2 ^ 62/\-(2 ^ 62)<=j/\j < 2 ^ 62)/\R (nA i (j - i).toNat) H1
theorem Vc {a:Expr} {ta:TA} {p pos:Pos} (hg:Gl X "range") (hm:X.mg "range" = none) (ha:PA X [a] ta) (hs:starEach [a] X.env=[(false,eval a X.env)]:=by rfl):PI X tg (.Call (.Name "range" p) [a] [] pos) (mS ta):=by
 intro pins s σ H R I h;refine Call_ (Fb I hg hm boot_range (PyProof.Rows.callWith_type1 (CQ (ha pos pins s σ H _ I h) fun us s1 ⟨vs,H1,I1,r1,q1⟩=>?_) hs rfl));obtain ⟨j,e,q1,q2,q⟩:=q1;subst e;cases r1 with
 | cons r rr =>
  cases rr;obtain ⟨t,rfl⟩:=r;exact call_range_1 (Qp I1 (by omega) (by omega) q1 q2 (by simpa using q))
theorem Vb {a b:Expr} {ta:TA} {p pos:Pos} (hg:Gl X "range") (hm:X.mg "range" = none) (ha:PA X [a,b] ta) (hs:starEach [a,b] X.env=[(false,eval a X.env),(false,eval b X.env)]:=by rfl) (hs2:starEach [b] X.env=[(false,eval b X.env)]:=by rfl) :
    PI X tg (.Call (.Name "range" p) [a,b] [] pos) (mR ta):=by
  intro pins s σ H R I h;refine Call_ (Fb I hg hm boot_range (PyProof.Rows.callWith_type1 (CQ (ha pos pins s σ H _ I h) fun us s1 ⟨vs,H1,I1,r1,q1⟩=>?_) (by rw [hs,hs2]) (by rw [hs2];rfl)));obtain ⟨i,j,e,⟨q1,q2,q3,q4⟩,q⟩:=q1;subst e;cases r1 with
  | cons r rr =>
    cases rr with
    | cons r' rr =>
      cases rr;obtain ⟨t,rfl⟩:=r;obtain ⟨t',rfl⟩:=r';exact call_range_2 (Qp I1 q1 q2 q3 q4 q)
abbrev nj (wi:TI) (g:TG) (tb:TS):TS:=fun D σ H=>wi σ H fun J H1=>∃ W:Nat->Nat->St->Hp->Prop,(∃ m,W 0 m σ H1)/\∀ i m σ H,W i m σ H ->
 (J.stop i H/\D.nx σ H)\/(J.go i H/\∃ N:St->Hp->Prop,(∀ σ' H',N σ' H'->∃ m',m' < m/\W (i+1) m' σ' H')/\∀ x H',J.yld i H x H'->g x σ H' fun σ2 H2=>tb { D with nx:=N,ct:=N,bk:=D.nx } σ2 H2)
noncomputable def PF (fp:List Addr) (h:Heap):List (Addr×Obj):=fp.filterMap fun b=>(h.get? b).map fun o=>(b,o)
theorem GZ {fp:List Addr} {h:Heap} {b:Addr} {o:Obj} (hb:b∈fp) (e:h.get? b=some o):(b,o)∈PF fp h:=List.mem_filterMap.mpr ⟨b,hb,by rw [e];rfl⟩
theorem Vn {fp:List Addr} {h:Heap} {p:Addr×Obj} (hp:p∈PF fp h):p.1∈fp/\h.get? p.1=some p.2:=by
 obtain ⟨b,hb,e⟩:=List.mem_filterMap.mp hp;cases q:h.get? b with
 | none=>rw [q] at e;cases e
 | some o =>
  rw [q] at e;have e':(b,o)=p:=Option.some.inj e;subst e';exact ⟨hb,q⟩
theorem Inv.pinned {pins:List (Addr×Obj)} {σ:St} {H:Hp} {s:Shared} {fp:List Addr} (I:Inv X pins σ H s) (hf:∀ b∈fp,FpOk X pins H b) (ho:∀ b∈fp,∃ o,s.heap.get? b=some o/\∀ v,o.data≠.cell v):Inv X (pins++PF fp s.heap) σ H s:=
 I.pins_of fun p hp=>(List.mem_append.mp hp).elim (fun z=>I.pin p (List.mem_append_right _ z)) fun z=>by
  obtain ⟨hb,e⟩:=Vn z;obtain ⟨f0,f1,f2,_⟩:=hf p.1 hb;obtain ⟨o,e',d⟩:=ho p.1 hb;rw [e] at e';cases e';exact ⟨e,f0,f1,f2,d⟩
theorem Inv.unpinned {pins pl:List (Addr×Obj)} {σ:St} {H:Hp} {s:Shared} (I:Inv X (pins++pl) σ H s):Inv X pins σ H s:=I.pins_of fun p hp=>I.pin p (List.mem_append_right _ (List.mem_append_left _ hp))
theorem iC {iter:Expr} {body:List Stmt} {wi:TI} {g:TG} {tb:TS} {pos:Pos} (hp:PassesOwn (model X.prog X.w) X.A X.env X.xe) (hc:X.calm=true) (hi:PI X tg iter wi) (hg:PG X tg g) (hb:OX X body tb)
    (hs:∀ x,foldedSetIterable iter X.env x=pure x:=by intro _;rfl):PS X (.For tg iter body [] pos) (nj wi g tb):=by
  intro pins s σ H D I h;refine wpAny_For (CQ (hi pins s σ H _ I h) fun v s1 h1=>CQ h1 fun itv s2 h2=>?_) hs;obtain ⟨it,fp,tn,J,H2,e,I2,T,st2,f2,W,⟨m0,w0⟩,turn⟩:=h2;subst e
  -- what stays true of the iterator's objects through the loop
  have stat:∀ {H':Hp},(∀ b∈fp,H' b=none)->∀ b∈fp,FpOk X pins H' b:=fun hn b hb=>⟨hn b hb,(f2 b hb).2⟩
  refine codeAny_forLoop_any (fun n s'=>∃ i σ' H',Inv X pins σ' H' s'/\tn i s'.heap/\(∀ b∈fp,H' b=none)/\W i n σ' H') ?_ m0 ⟨0,σ,H2,I2,st2,fun b hb=>(f2 b hb).1,w0⟩;rintro n s3 ⟨i,σ3,H3,I3,st3,fr3,w3⟩;rcases turn i n σ3 H3 w3 with ⟨stop,qn⟩ | ⟨go,N,hN,step⟩
  · refine wpAny_passesOwn hp (CQ (T.done X rfl rfl rfl hc i pins s3 σ3 H3 X.xe I3 (stat fr3) st3 stop) fun r s4 ⟨hr,I4⟩=>?_);subst hr;exact wpAny_execs_nil ⟨σ3,H3,I4,qn⟩
  · refine wpAny_passesOwn hp (CQ (T.item X rfl rfl rfl hc i pins s3 σ3 H3 X.xe I3 (stat fr3) st3 go) fun r s4 ⟨u,hr,h4⟩=>?_);subst hr;refine wpAny_passesOwn hp (CQ h4 fun _ s5 ⟨x,H5,I5,r5,y5,st5,fr5⟩=>?_);have I5':=I5.pinned (stat fr5) (T.obj _ _ st5);refine wpAny_passesOwn hp (CQ (hg _ s5 σ3 H5 x u _ I5' r5 (step x H5 y5)) fun _ s6 ⟨σ6,H6,I6,q6⟩=>?_);refine wpAny_passesOwn hp (CQ (hb _ s6 σ6 H6 _ I6 q6) fun f s7 q7=>?_);have again:∀ {σ7:St} {H7:Hp},Inv X (pins++PF fp s5.heap) σ7 H7 s7->N σ7 H7->∃ m,m < n/\∃ i σ' H',Inv X pins σ' H' s7/\tn i s7.heap/\(∀ b∈fp,H' b=none)/\W i m σ' H':=fun {σ7 H7} I7 n7=>by
      obtain ⟨m',hm,w7⟩:=hN σ7 H7 n7;refine ⟨m',hm,i+1,σ7,H7,I7.unpinned,T.keep _ _ _ st5 fun b hb o e=>(I7.pin (b,o) (List.mem_append_right _ (List.mem_append_right _ (GZ hb e)))).1,fun b hb=>?_,w7⟩;obtain ⟨o,e,d⟩:=T.obj _ _ st5 b hb;exact (I7.pin (b,o) (List.mem_append_right _ (List.mem_append_right _ (GZ hb e)))).2.1
    cases f with
    | next=>obtain ⟨σ7,H7,I7,n7⟩:=q7;exact again I7 n7
    | cont=>obtain ⟨σ7,H7,I7,n7⟩:=q7;exact again I7 n7
    | brk=>obtain ⟨σ7,H7,I7,q7⟩:=q7;exact ⟨σ7,H7,I7.unpinned,q7⟩
    | ret v=>obtain ⟨x7,σ7,H7,I7,r7,q7⟩:=q7;exact ⟨x7,σ7,H7,I7.unpinned,r7,q7⟩
end
abbrev R2:=V->V->Hp->VK->Prop
def FW (X:Cx) (f:Value->Value->Sem Value) (r:R2):Prop:=
 ∀ (pins:List (Addr×Obj)) (s:Shared) (σ:St) (H:Hp) (x y:V) (v u:Value) (Q:VK),Inv X pins σ H s->RelV x v->RelV y u->r x y H Q ->
  wpAny (model X.prog X.w) X.A (f v u) (EP X pins σ Q) X.xe s
def nR (X:Cx) (f:Value->Sem Value) (r:V->Hp->VK->Prop):Prop:=
 ∀ (pins:List (Addr×Obj)) (s:Shared) (σ:St) (H:Hp) (x:V) (v:Value) (Q:VK),Inv X pins σ H s->RelV x v->r x H Q ->
  wpAny (model X.prog X.w) X.A (f v) (EP X pins σ Q) X.xe s
def GP (X:Cx) (f:Value) (r:List V->Hp->VK->Prop):Prop:=
 ∀ (pins:List (Addr×Obj)) (s:Shared) (σ:St) (H:Hp) (xs:List V) (us:List Value) (Q:VK),Inv X pins σ H s->Am xs us->r xs H Q ->
  wpAny (model X.prog X.w) X.A (call f us) (EP X pins σ Q) X.xe s
def pQ (X:Cx) (r:V->Hp->(Bool->Hp->Prop)->Prop):Prop:=
 ∀ (pins:List (Addr×Obj)) (s:Shared) (σ:St) (H:Hp) (x:V) (v:Value) (Q:Bool->Hp->Prop),Inv X pins σ H s->RelV x v->r x H Q ->
  wpAny (model X.prog X.w) X.A (truthy v) (TP X pins σ Q) X.xe s
abbrev nE (r:R2) (ta tb:TE):TE:=fun σ H Q=>ta σ H fun x H1=>tb σ H1 fun y H2=>r x y H2 Q
abbrev qh (r:V->Hp->VK->Prop) (ta:TE):TE:=fun σ H Q=>ta σ H fun x H1=>r x H1 Q
def rI (C:Int->Int->Prop) (g:Int->Int->V):R2:=fun x y H Q=>∃ i j,x=.int i/\y=.int j/\C i j/\Q (g i j) H
def VX (g:Int->Int->V):R2:=fun x y H Q=>∃ i j,x=.int i/\y=.int j/\Q (g i j) H
def rU (g:Int->V):V->Hp->VK->Prop:=fun x H Q=>∃ i,x=.int i/\Q (g i) H
section
variable {X:Cx} {a b c:Expr} {ta tb tc:TE} {pos:Pos}
theorem jr (ha:PE X a ta) (hb:PE X b tb) {pins:List (Addr×Obj)} {s:Shared} {σ:St} {H:Hp} {R:V->V->Hp->Prop} (I:Inv X pins σ H s)
    (h:ta σ H fun x H1=>tb σ H1 fun y H2=>R x y H2) {Q:Value->Shared->Prop} {f:Value->Value->Sem Value}
    (hf:∀ v u s2 x y H2,Inv X pins σ H2 s2->RelV x v->RelV y u->R x y H2->wpAny (model X.prog X.w) X.A (f v u) Q X.xe s2) :
    wpAny (model X.prog X.w) X.A (eval a X.env) (fun v s₁=>wpAny (model X.prog X.w) X.A (eval b X.env) (fun u s₂=>wpAny (model X.prog X.w) X.A (f v u) Q X.xe s₂) X.xe s₁) X.xe s:=by
  refine CQ (ha pins s σ H _ I h) fun v s1 ⟨x,H1,I1,r1,q1⟩=>?_
  refine CQ (hb pins s1 σ H1 _ I1 q1) fun u s2 ⟨y,H2,I2,r2,q2⟩=>?_
  exact hf v u s2 x y H2 I2 r1 r2 q2
theorem lS {op:Operator} {r:R2} (ho:FW X (binaryOp op) r) (ha:PE X a ta) (hb:PE X b tb):PE X (.BinOp a op b pos) (nE r ta tb):=by
 intro pins s σ H Q I h;exact wpAny_BinOp (jr ha hb I h fun v u s2 x y H2 I2 rx ry q=>ho pins s2 σ H2 x y v u Q I2 rx ry q)
theorem lQ {op:UnaryOp} {r:V->Hp->VK->Prop} (ho:nR X (unaryOp op) r) (ha:PE X a ta):PE X (.UnaryOp op a pos) (qh r ta):=by
 intro pins s σ H Q I h;exact UnaryOp_ (CQ (ha pins s σ H _ I h) fun v s1 ⟨x,H1,I1,r1,q1⟩=>ho pins s1 σ H1 x v Q I1 r1 q1)
theorem nL {f:Value->Value->Sem Value} {C:Int->Int->Prop} {g:Int->Int->Int}
    (rule:∀ (i j:Int) (t u:Tok) (s:Shared) (Q:Value->Shared->Prop) (E:Value->Shared->Prop),C i j->Q (.int (g i j) s.toks) { s with toks:=s.toks+1 }->wpAny (model X.prog X.w) X.A (f (.int i t) (.int j u)) Q E s) :
    FW X f (rI C fun i j=>.int (g i j)):=by
  intro pins s σ H x y v u Q I rx ry h;obtain ⟨i,j,rfl,rfl,hc,q⟩:=h;obtain ⟨t,rfl⟩:=rx;obtain ⟨t',rfl⟩:=ry;exact rule i j t t' s _ _ hc ⟨.int (g i j),H,I.tok _,⟨_,rfl⟩,q⟩
theorem lj {f:Value->Value->Sem Value} {g:Int->Int->Int}
    (rule:∀ (i j:Int) (t u:Tok) (s:Shared) (Q:Value->Shared->Prop) (E:Value->Shared->Prop),Q (.int (g i j) s.toks) { s with toks:=s.toks+1 }->wpAny (model X.prog X.w) X.A (f (.int i t) (.int j u)) Q E s) :
    FW X f (VX fun i j=>.int (g i j)):=by
  intro pins s σ H x y v u Q I rx ry h;obtain ⟨i,j,rfl,rfl,q⟩:=h;obtain ⟨t,rfl⟩:=rx;obtain ⟨t',rfl⟩:=ry;exact rule i j t t' s _ _ ⟨.int (g i j),H,I.tok _,⟨_,rfl⟩,q⟩
theorem cF {f:Value->Value->Sem Value} {g:Int->Int->Bool}
    (rule:∀ (i j:Int) (t u:Tok) (s:Shared) (Q:Value->Shared->Prop) (E:Value->Shared->Prop),Q (.bool (g i j)) s->wpAny (model X.prog X.w) X.A (f (.int i t) (.int j u)) Q E s) :
    FW X f (VX fun i j=>.bl (g i j)):=by
  intro pins s σ H x y v u Q I rx ry h;obtain ⟨i,j,rfl,rfl,q⟩:=h;obtain ⟨t,rfl⟩:=rx;obtain ⟨t',rfl⟩:=ry;exact rule i j t t' s _ _ ⟨.bl (g i j),H,I,rfl,q⟩
def nC (i j:Int):Prop:=0 < j/\j < 1073741824
def nB (i j:Int):Prop:=0<=j/\j<=1000000/\i.natAbs < 2 ^ 64
def aq (i j:Int):Prop:=(-(2 ^ 64) < i/\i < 2 ^ 64)\/(-(2 ^ 64) < j/\j < 2 ^ 64)
theorem aq.ok {i j:Int} (h:aq i j):IntMulOk i j:=by
 rcases h with ⟨h1,h2⟩ | ⟨h1,h2⟩
 ·exact .of_left (intBits_le_64 h1 h2)
 ·exact .of_right (intBits_le_64 h1 h2)
theorem iq:FW X (binaryOp .Add) (VX fun i j=>.int (i+j)):=lj fun _ _ _ _ _ _ _ q=>add_int q
theorem Sl:FW X (binaryOp .Sub) (VX fun i j=>.int (i - j)):=lj fun _ _ _ _ _ _ _ q=>sub_int q
theorem ie:FW X (binaryOp .Mult) (rI aq fun i j=>.int (i * j)):=nL fun _ _ _ _ _ _ _ hc q=>mul_int q hc.ok
theorem UD:FW X (binaryOp .FloorDiv) (rI nC fun i j=>.int (i / j)):=nL fun i j _ _ _ _ _ hc q=>by
 have h1:(0:Int) < j:=hc.1;have h2:j < 1073741824:=hc.2;exact floordiv_int (by omega) (by rw [Int.fdiv_eq_ediv_of_nonneg i (by omega)];exact q) (.inl (PyProof.noPylong_small (by omega)))
theorem EV:FW X (binaryOp .Mod) (rI (fun _ j=>0 < j) fun i j=>.int (i % j)):=nL fun i j _ _ _ _ _ hc q=>by
 have h1:(0:Int) < j:=hc;exact mod_int' (by omega) (by rw [Int.fmod_eq_emod_of_nonneg i (by omega)];exact q)
theorem ic:FW X (binaryOp .Pow) (rI nB fun i j=>.int (i ^ j.toNat)):=nL fun _ _ _ _ _ _ _ hc q=>pow_int_small hc.1 hc.2.1 hc.2.2 q
theorem qc {f:Value->Sem Value} {g:Int->Int}
    (rule:∀ (i:Int) (t:Tok) (s:Shared) (Q:Value->Shared->Prop) (E:Value->Shared->Prop),Q (.int (g i) s.toks) { s with toks:=s.toks+1 }->wpAny (model X.prog X.w) X.A (f (.int i t)) Q E s) :
    nR X f (rU fun i=>.int (g i)):=by
  intro pins s σ H x v Q I rx h;obtain ⟨i,rfl,q⟩:=h;obtain ⟨t,rfl⟩:=rx;exact rule i t s _ _ ⟨.int (g i),H,I.tok _,⟨_,rfl⟩,q⟩
theorem OY:nR X (unaryOp .USub) (rU fun i=>.int (-i)):=qc fun _ _ _ _ _ q=>neg_int q
end
section
variable {X:Cx} {a b c:Expr} {ta tb tc:TE} {pos:Pos}
theorem jV {pins:List (Addr×Obj)} {σ:St} {H:Hp} {s:Shared} {Q:VK} {k k':Bool} (I:Inv X pins σ H s) (q:Q (.bl k) H) (e:k=k'):EP X pins σ Q (.bool k') s:=by
 subst e;exact ⟨.bl k,H,I,rfl,q⟩
theorem Nt:FW X (compareOp .Lt) (VX fun i j=>.bl (decide (i < j))):=cF fun _ _ _ _ _ _ _ q=>lt_int q
theorem lh:FW X (compareOp .LtE) (VX fun i j=>.bl (decide (i<=j))):=cF fun _ _ _ _ _ _ _ q=>le_int q
theorem Qz:FW X (compareOp .Gt) (VX fun i j=>.bl (decide (j < i))):=cF fun _ _ _ _ _ _ _ q=>gt_int q
theorem eU:FW X (compareOp .GtE) (VX fun i j=>.bl (decide (j<=i))):=cF fun _ _ _ _ _ _ _ q=>ge_int q
theorem Vf:FW X (compareOp .In) (fun x y H Q=>∃ i j,x=.str i/\y=.str j/\Q (.bl (!(Builtin.Str.occurrences j i 0 j.length 1).isEmpty)) H):=by
 intro pins s σ H x y v u Q I rx ry h;obtain ⟨i,j,rfl,rfl,q⟩:=h;obtain ⟨t,rfl⟩:=rx;obtain ⟨t',rfl⟩:=ry;exact in_str (jV I q rfl)
theorem FW.or {f:Value->Value->Sem Value} {r r':R2} (h:FW X f r) (h':FW X f r'):FW X f (fun x y H Q=>r x y H Q\/r' x y H Q):=by
 intro pins s σ H x y v u Q I rx ry q;rcases q with q | q
 ·exact h pins s σ H x y v u Q I rx ry q
 ·exact h' pins s σ H x y v u Q I rx ry q
theorem BH (b:Expr) {op:CmpOp} (h:op≠.In:=by decide) (h2:op≠.NotIn:=by decide):behindInMarks op b=false:=by
 have e1:(op == CmpOp.In)=false:=by cases op<;>first | rfl | exact absurd rfl h
 have e2:(op == CmpOp.NotIn)=false:=by cases op<;>first | rfl | exact absurd rfl h2
 cases b<;>simp [behindInMarks,e1,e2]
theorem bu {op:CmpOp} {r:R2} (ho:FW X (compareOp op) r) (ha:PE X a ta) (hb:PE X b tb) (hm:behindInMarks op b=false):PE X (.Compare a [op] [b] pos) (nE r ta tb):=by
 intro pins s σ H Q I h;exact wpAny_Compare1 (jr ha hb I h fun v u s2 x y H2 I2 rx ry q=>ho pins s2 σ H2 x y v u Q I2 rx ry q) hm
abbrev kZ (t:TE):TT:=fun σ H Q=>t σ H fun x H'=>∃ k,x=.bl k/\Q k H'
theorem bb {op:CmpOp} {r:R2} (ho:FW X (compareOp op) r) (ha:PE X a ta) (hb:PE X b tb) (hm:behindInMarks op b=false):PT X (.Compare a [op] [b] pos) (kZ (nE r ta tb)):=by
 intro pins s σ H Q I h;refine wpAny_isTrue_Compare1 (CQ (ha pins s σ H _ I h) fun v s1 ⟨x,H1,I1,r1,q1⟩=>CQ (hb pins s1 σ H1 _ I1 q1) fun u s2 ⟨y,H2,I2,r2,q2⟩ =>
  CQ (ho pins s2 σ H2 x y v u _ I2 r1 r2 q2) fun c s3 ⟨z,H3,I3,r3,k,e,q3⟩=>?_) hm
 subst e;cases r3;exact wpAny_truthy_bool ⟨H3,I3,q3⟩
abbrev XB (r r':R2) (ta tb tc:TE):TE:=fun σ H Q=>ta σ H fun x H1=>tb σ H1 fun y H2=>r x y H2 fun z H3=>∃ k,z=.bl k /\
 (if k=true then tc σ H3 fun w' H4=>r' y w' H4 Q else Q (.bl false) H3)
theorem Xt {op op':CmpOp} {r r':R2} (ho:FW X (compareOp op) r) (ho':FW X (compareOp op') r') (ha:PE X a ta) (hb:PE X b tb) (hc:PE X c tc)
    (hm:lastMarks [op,op'] [b,c]=false:=by with_unfolding_all rfl):PE X (.Compare a [op,op'] [b,c] pos) (XB r r' ta tb tc):=by
  intro pins s σ H Q I h;refine Compare_chain (CQ (ha pins s σ H _ I h) fun v s1 ⟨x,H1,I1,r1,q1⟩=>chain_link (CQ (hb pins s1 σ H1 _ I1 q1) fun u s2 ⟨y,H2,I2,r2,q2⟩ =>
    CQ (ho pins s2 σ H2 x y v u _ I2 r1 r2 q2) fun d s3 ⟨z,H3,I3,r3,k,e,q3⟩=>?_)) hm
  subst e;cases r3;refine wpAny_truthy_bool ?_;cases k with
  | false=>exact ite_ff ⟨.bl false,H3,I3,rfl,q3⟩
  | true=>exact ite_tt (chain_last (CQ (hc pins s3 σ H3 _ I3 q3) fun w' s4 ⟨z',H4,I4,r4,q4⟩=>ho' pins s4 σ H4 y z' u w' Q I4 r2 r4 q4))
def kA (K:W.Frag) (x:V) (H:Hp) (k:Bool):Prop:=
 match x with
 | .non=>k=false
 | .bl b=>k=b
 | .int i=>k=(i != 0)
 | .str y=>y.length<=sizeLine/\k=((y.length:Int) != 0)
 | .byt y=>y.size<=sizeLine/\k=((y.size:Int) != 0)
 | .ref p=>(∃ xs,HC K H p xs/\k=!xs.isEmpty)\/(∃ xs,IK K H p xs/\k=!xs.isEmpty)\/∃ kvs,H p=some (.dK kvs)/\k=!kvs.isEmpty
 | _=>False
theorem Sz {κ:Type} {kvs:List (κ×V)} {vs:List (κ×Value)} (r:KV kvs vs):(!vs.isEmpty)=!kvs.isEmpty:=by
 cases r<;>rfl
theorem MK {xs:List V} {its:List Value} (r:Am xs its):(!its.toArray.isEmpty)=!xs.isEmpty:=by
 cases r<;>simp
theorem KA:(sizeLine:Nat) < 2 ^ 63:=by rw [sizeLine_eq];decide
theorem gc:pQ X (fun x H Q=>∃ k,kA X.K x H k/\Q k H):=by
 intro pins s σ H x v Q I rx h;obtain ⟨k,e,q⟩:=h;have hl:=KA;have hs:sizeLine=16777216:=sizeLine_eq;cases x with
 | non =>
  cases rx;have e':k=false:=e;subst e';exact truthy_none ⟨H,I,q⟩
 | bl b =>
  cases rx;have e':k=b:=e;subst e';exact wpAny_truthy_bool ⟨H,I,q⟩
 | int i =>
  obtain ⟨t,rfl⟩:=rx;have e':k=(i != 0):=e;subst e';exact PySem.P.truthy_int ⟨H,I,q⟩
 | str y =>
  obtain ⟨t,rfl⟩:=rx;obtain ⟨hy,e'⟩:y.length<=sizeLine/\k=((y.length:Int) != 0):=e;subst e';exact PySem.P.truthy_str (by omega) ⟨H,I.tok _,q⟩
 | byt y =>
  obtain ⟨t,rfl⟩:=rx;obtain ⟨hy,e'⟩:y.size<=sizeLine/\k=((y.size:Int) != 0):=e;subst e';exact W.truthy_bytes (by omega) ⟨H,I.tok _,q⟩
 | ref p =>
  cases rx;have e':(∃ xs,HC X.K H p xs/\k=!xs.isEmpty)\/(∃ xs,IK X.K H p xs/\k=!xs.isEmpty)\/∃ kvs,H p=some (.dK kvs)/\k=!kvs.isEmpty:=e;rcases e' with ⟨xs,hx,e'⟩ | ⟨xs,hx,e'⟩ | ⟨kvs,hx,e'⟩
  ·subst e';obtain ⟨its,r,pl,hz⟩:=I.list hx;have hlen:=r.length;exact wpAny_truthy_list pl.isList (by simp only [List.size_toArray];omega) ⟨H,I.tok _,by rw [MK r];exact q⟩
  ·subst e';obtain ⟨its,r,pl,hz⟩:=I.tuple hx;have hlen:=r.length;exact truthy_tuple pl (by simp only [List.size_toArray];omega) ⟨H,I.tok _,by rw [MK r];exact q⟩
  ·subst e';obtain ⟨hz,hS,vs,r,m⟩:kvs.length<=sizeLine/\(p == sysModules)=false/\∃ vs,KV kvs vs/\s.heap.DictOf (PY X.prog X.w) p vs:=I.hok p _ hx;have hlen:kvs.length=vs.length:=Paired.length r;exact wpAny_truthy_dict hS m (by omega) ⟨H,I.tok _,by rw [Sz r];exact q⟩
 | _=>exact (show False from e).elim
theorem Xg (ha:PE X a ta) (he:∀ whole,isTrue a X.env whole=(do let v <- whole;standAt a.pos;holding [v] (truthy v))) :
    PT X a (fun σ H Q=>ta σ H fun x H'=>∃ k,kA X.K x H' k/\Q k H'):=by
  intro pins s σ H Q I h;exact isTrue_plain (CQ (ha pins s σ H _ I h) fun v s1 ⟨x,H1,I1,r1,q1⟩=>gc pins s1 σ H1 x v Q I1 r1 q1) (he _)
theorem Sm:FW X (binaryOp .Add) (fun x y H Q=>∃ i j,x=.str i/\y=.str j/\i.length+j.length<=sizeLine/\Q (.str (i++j)) H):=by
 intro pins s σ H x y v u Q I rx ry h;obtain ⟨i,j,rfl,rfl,hz,q⟩:=h;obtain ⟨t,rfl⟩:=rx;obtain ⟨t',rfl⟩:=ry;exact add_str (fun t' tk=>⟨.str (i++j),H,I.tok _,⟨_,rfl⟩,q⟩) hz
theorem vals1 {x:V} {us:List Value} (r:Am [x] us):∃ u,us=[u]/\RelV x u:=by
 cases r with
 | cons r1 r2=>cases r2;exact ⟨_,rfl,r1⟩
def mz (K:W.Frag) (x:V) (H:Hp) (n:Nat):Prop:=
 match x with
 | .str y=>y.length<=sizeLine/\n=y.length
 | .byt y=>y.size<=sizeLine/\n=y.size
 | .ref p=>(∃ xs,HC K H p xs/\n=xs.length)\/∃ xs,IK K H p xs/\n=xs.length
 | _=>False
theorem Zt:GP X (.builtin "len") (fun xs H Q=>∃ x n,xs=[x]/\mz X.K x H n/\Q (.int n) H):=by
 intro pins s σ H xs us Q I r h;obtain ⟨x,n,rfl,e,q⟩:=h;obtain ⟨u,rfl,rx⟩:=vals1 r;have hl:=KA;have hs:sizeLine=16777216:=sizeLine_eq;cases x with
 | str y =>
  obtain ⟨t,rfl⟩:=rx;obtain ⟨hy,e'⟩:y.length<=sizeLine/\n=y.length:=e;subst e';exact len_str (by omega) ⟨.int _,H,I.tok _,⟨_,rfl⟩,q⟩
 | byt y =>
  obtain ⟨t,rfl⟩:=rx;obtain ⟨hy,e'⟩:y.size<=sizeLine/\n=y.size:=e;subst e';exact W.len_bytes (by omega) ⟨.int _,H,I.tok _,⟨_,rfl⟩,q⟩
 | ref p =>
  cases rx;have e':(∃ xs,HC X.K H p xs/\n=xs.length)\/∃ xs,IK X.K H p xs/\n=xs.length:=e;rcases e' with ⟨xs,hx,e'⟩ | ⟨xs,hx,e'⟩
  ·subst e';obtain ⟨its,r',pl,hz⟩:=I.list hx;have hlen:=r'.length;exact Calls.call_len_list pl.isList (by simp only [List.size_toArray];omega) ⟨.int xs.length,H,I.tok _,⟨_,by simp only [List.size_toArray];rw [hlen]⟩,q⟩
  ·subst e';obtain ⟨its,r',pl,hz⟩:=I.tuple hx;have hlen:=r'.length;exact len_tuple pl (by simp only [List.size_toArray];omega) ⟨.int xs.length,H,I.tok _,⟨_,by simp only [List.size_toArray];rw [hlen]⟩,q⟩
 | _=>exact (show False from e).elim
end
structure ObjM (h:Heap) (x dx C:Addr) (mA:Str->Option Value):Prop where
 obj:h.get? x=some (W.instObj C dx)
 ns:h.Ns1 dx mA
 ne:dx≠x
theorem Vu {h:Heap} {dx:Addr} {mA:Str->Option Value} (n:h.Ns1 dx mA):∃ od,h.get? dx=some od/\∀ name,W.lookIn name od=some (mA name):=by
  obtain ⟨o,es,ep,ho,hd,hk,_,hm⟩:=n;refine ⟨o,ho,fun name=>?_⟩;have e:=hm name;unfold nsFind findBy at e;rw [<- Array.find?_toList] at e;unfold W.lookIn;rw [hd];dsimp only;split
  · rename_i y q;rw [q] at e;exact congrArg some e
  · rename_i q;rw [q] at e;have a:es.toList.any (·.refKey)=false:=by
      rw [List.any_eq_false];intro y hy;obtain ⟨z,t,hkey⟩:=hk y (Array.mem_toList_iff.mp hy);simp [DictEntry.refKey,hkey]
    have a':¬ es.toList.any (·.refKey)=true:=by rw [a];exact Bool.false_ne_true
    rw [if_neg a'];exact congrArg some e
theorem ObjM.look {h:Heap} {x dx C:Addr} {mA:Str->Option Value} (I:ObjM h x dx C mA):∃ od,W.InstAt h x (W.instObj C dx) C (some od)/\∀ name,W.lookIn name od=some (mA name):=
 let ⟨od,ho,hl⟩:=Vu I.ns
 ⟨od,⟨I.obj,rfl,rfl,ho⟩,hl⟩
section
end
section
variable {P:Program} {w:World} {H H':Hp} {h h':Heap} {a C dx:Addr} {fs fs':List (Str×V)}
theorem cZ (hok:Ks P w H h) (e:H a=some (.ins C dx fs)):∃ mA,ObjM h a dx C mA/\(∀ f,kD (fs.lookup f) (mA f))/\PySem.Within mA (fs.map (·.1))/\fs.length<=1000/\H dx=some (.own a):=by
 obtain ⟨d,z,ne,ob,mA,n,r,q⟩:=(show CZ P w H h a (.ins C dx fs) from hok a _ e);exact ⟨mA,⟨ob,n,ne⟩,r,q,z,d⟩
end
structure Cls (K:W.Frag) (C:Addr):Prop where
 pg:W.plainGet K C Str.empty=true
 hd:W.hasDictIn K C=true
 po:W.plainOver K C=true
 sa:W.findIn K (.ref C) "__setattr__" = some (some (.builtin "object.__setattr__"))
theorem Cls.get {K:W.Frag} {C:Addr} (c:Cls K C) (f:Str):W.plainGet K C f=true:=c.pg
section
end
section
end
section
variable {X:Cx} {pins:List (Addr×Obj)} {σ:St} {H:Hp} {s:Shared} {A:Around} {E:Value->Shared->Prop} {Q:Value->Shared->Prop} {c:Value} {b:Bool}
inductive TyOf (K:W.Frag) (H:Hp):V->Value->Prop where
  | non:TyOf K H .non (.type "NoneType")
  | bl (x:Bool):TyOf K H (.bl x) (.type "bool")
  | int (i:Int):TyOf K H (.int i) (.type "int")
  | str (x:Str):TyOf K H (.str x) (.type "str")
  | flt (x:UInt64):TyOf K H (.flt x) (.type "float")
  | lst {a:Addr} {xs:List V} (e:H a=some (.lst xs)):TyOf K H (.ref a) (.type "list")
  | frz {a:Addr} {o:Obj} {xs:List V} (e:H a=some (.frz o (.lst xs))):TyOf K H (.ref a) (.type "list")
  | tup {a:Addr} {xs:List V} (e:H a=some (.tup xs)):TyOf K H (.ref a) (.type "tuple")
  | dK {a:Addr} {kvs:List (Qa×V)} (e:H a=some (.dK kvs)):TyOf K H (.ref a) (.type "dict")
  | dT {a:Addr} {kvs:List (List Qa×V)} (e:H a=some (.dT kvs)):TyOf K H (.ref a) (.type "dict")
  | ins {a C dx:Addr} {fs:List (Str×V)} (e:H a=some (.ins C dx fs)) (cl:Cls K C) (ha:W.findIn K (.ref C) "__class__" = some (some (.builtin "object.__class__")))
      (hn:W.specialIn K (.builtin "object.__class__") "__get__" = some (some (.builtin "getset_descriptor.__get__"))) (htk:W.takesIn K (.builtin "object.__class__")=some true)
      (hm:W.mroIn K C (.type "object")=some true):TyOf K H (.ref a) (.ref C)
theorem Vx {x:V} {u t:Value} (I:Inv X pins σ H s) (rx:RelV x u) (ty:TyOf X.K H x t) (e:W.kitOne X.K t c=some b) (h:∀ tk,Q (.bool b) { s with toks:=tk }) :
    wpAny (model X.prog X.w) A (call (.builtin "isinstance") [u,c]) Q E s:=by
  cases ty with
  | non=>cases (show u=Value.none from rx);exact W.kia_one W.kitx_none I.kIn True.intro e (fun z=>nomatch z) h
  | bl y=>cases (show u=Value.bool y from rx);exact W.kia_one W.kitx_bool I.kIn True.intro e (fun z=>nomatch z) h
  | int i=>obtain ⟨t,q⟩:=(show ∃ t,u=Value.int i t from rx);cases q;exact W.kia_one W.kitx_int I.kIn True.intro e (fun z=>nomatch z) h
  | str y=>obtain ⟨t,q⟩:=(show ∃ t,u=Value.str y t from rx);cases q;exact W.kia_one W.kitx_str I.kIn True.intro e (fun z=>nomatch z) h
  | flt y=>obtain ⟨t,q⟩:=(show ∃ t,u=Value.float y t from rx);cases q;exact W.kia_one W.kitx_float I.kIn True.intro e (fun z=>nomatch z) h
  | @lst a xs ea =>
    cases (show u=Value.ref a from rx);obtain ⟨_,_,n,_,h1⟩:=(show CZ X.prog X.w H s.heap a (.lst xs) from I.hok a _ ea);exact W.kia_one W.kitx_list I.kIn ⟨_,h1,rfl⟩ e (fun z=>nomatch z) h
  | @frz a ob xs ea =>
    cases (show u=Value.ref a from rx);obtain ⟨_,_,_,n,_,h1⟩:=(show CZ X.prog X.w H s.heap a (.frz ob (.lst xs)) from I.hok a _ ea);exact W.kia_one W.kitx_list I.kIn ⟨_,h1,rfl⟩ e (fun z=>nomatch z) h
  | @tup a xs ea =>
    cases (show u=Value.ref a from rx);obtain ⟨_,_,_,p⟩:=(show CZ X.prog X.w H s.heap a (.tup xs) from I.hok a _ ea);obtain ⟨o,h1,h2,_⟩:=p;exact W.kia_one W.kitx_tuple I.kIn ⟨o,h1,h2⟩ e (fun z=>nomatch z) h
  | @dK a kvs ea =>
    cases (show u=Value.ref a from rx);obtain ⟨_,_,vs,_,p⟩:=(show CZ X.prog X.w H s.heap a (.dK kvs) from I.hok a _ ea);obtain ⟨o,es,ep,h1,h2,_⟩:=p;exact W.kia_one W.kitx_dict I.kIn ⟨o,h1,h2.1⟩ e (fun z=>nomatch z) h
  | @dT a kvs ea =>
    cases (show u=Value.ref a from rx);obtain ⟨_,_,xs,_,o,es,ep,h1,h2,_⟩:=(show CZ X.prog X.w H s.heap a (.dT kvs) from I.hok a _ ea);exact W.kia_one W.kitx_dict I.kIn ⟨o,h1,h2.1⟩ e (fun z=>nomatch z) h
  | @ins a C dx fs ea cl ha hn htk hm =>
    cases (show u=Value.ref a from rx);obtain ⟨mA,O,_⟩:=cZ I.hok ea;obtain ⟨od,J,_⟩:=O.look;exact W.kia_one (W.kitx_own (cl.get _) cl.hd ha hn htk hm) I.kIn J e (fun z=>nomatch z) h
end
structure Room (k:Nat) (A:Around):Prop where
 hd:A.handled=none
 dp:A.depth+3 * k+5 < recursionLimit
 un:A.units+16 * k+200 < cLine
 gd:A.guards=some []
theorem Room.mono {j k:Nat} {A:Around} (r:Room k A) (h:j<=k):Room j A:=⟨r.hd,by have:=r.dp;omega,by have:=r.un;omega,r.gd⟩
theorem Room.deeper {k:Nat} {A:Around} (r:Room (k+1) A) (env:Env):Room k (A.deeper env):=
 ⟨r.hd,by have:=r.dp;show A.depth+1+3 * k+5 < _;omega,by have:=r.un;show A.units+3+16 * k+200 < _;omega,r.gd⟩
theorem Room.depth {k:Nat} {A:Around} (r:Room k A):A.depth < recursionLimit:=by have:=r.dp;omega
abbrev kh:TA:=fun _ H Q=>Q [] H
abbrev dz (ta:TE) (tr:TA):TA:=fun σ H Q=>ta σ H fun x H1=>tr σ H1 fun xs H2=>Q (x::xs) H2
section
variable {X:Cx} {e:Expr} {es:List Expr} {te:TE} {t:TA} {pos:Pos}
theorem iS:PA X [] kh:=fun _ _ _ _ H Q I h=>Calls.spliced_nil ⟨[],H,I,.nil,h⟩
theorem bz (ha:PE X e te) (hr:PA X es t) (hs:starEach (e::es) X.env=(false,eval e X.env)::starEach es X.env:=by rfl):PA X (e::es) (dz te t):=by
 intro pos pins s σ H Q I h;rw [hs];show wpAny _ _ (spliced ((false,eval e X.env)::backTo pos (starEach es X.env))) _ _ s;refine Calls.spliced_cons (CQ (ha pins s σ H _ I h) fun u s1 ⟨x,H1,I1,r1,q1⟩=>?_);exact CQ (hr pos pins s1 σ H1 _ I1 q1) fun us s2 ⟨xs,H2,I2,r2,q2⟩=>⟨x::xs,H2,I2,.cons r1 r2,q2⟩
abbrev nW (t:TA):TE:=fun σ H Q=>t σ H fun xs H1=>xs.length<=sizeLine/\∀ p,H1 p=none->Q (.ref p) (upd H1 p (.tup xs))
abbrev nh (t:TA):TE:=fun σ H Q=>t σ H fun xs H1=>xs.length<=sizeLine/\∀ p,H1 p=none->Q (.ref p) (upd H1 p (.lst xs))
theorem iK {x1} (h:PA X es t):PE X (.Tuple es x1 pos) (nW t):=by
 intro pins s σ H Q I hq;refine wpAny_Tuple_spliced (CQ (h pos pins s σ H _ I hq) fun us s1 ⟨xs,H1,I1,r,z,q⟩=>⟨by rw [<- r.length];exact z,?_⟩);have hf:H1 s1.heap.objs.size=none:=I1.hok.fresh (Nat.le_refl _);refine ⟨.ref s1.heap.objs.size,upd H1 s1.heap.objs.size (.tup xs),I1.laid (t':=s1.toks) (fun b u e=>Heap.get?_push_of_some _ e) (Nat.le_refl _) ?_,rfl,q _ hf⟩;exact ⟨z,us,r,⟨_,Heap.get?_push_size _ rfl,rfl,rfl,_,rfl⟩⟩
theorem iO (h:PA X es t):PE X (.List es pos) (nh t):=by
 intro pins s σ H Q I hq;refine wpAny_List_spliced (CQ (h pos pins s σ H _ I hq) fun us s1 ⟨xs,H1,I1,r,z,q⟩=>⟨by rw [<- r.length];exact z,?_⟩);have hf:H1 s1.heap.objs.size=none:=I1.hok.fresh (Nat.le_refl _);refine ⟨.ref s1.heap.objs.size,upd H1 s1.heap.objs.size (.lst xs),I1.laid (t':=s1.toks) (fun b u e=>Heap.get?_push_of_some _ e) (Nat.le_refl _) ?_,rfl,q _ hf⟩;exact ⟨z,us,0,r,Heap.get?_push_size _ rfl⟩
end
abbrev Sp:=List V->Hp->VK->XK->Prop
abbrev ao:=List Env->Hp->Shared->XK->Value->Shared->Prop
structure Env0 (P:Program) (w:World) (K:W.Frag) (mg:Str->Option Value) (base:Heap) (A:Around) (outer:List Env) (s:Shared) (H:Hp):Prop where
 frames:A.frames=some outer
 mod:Mod K mg base
 bs:∀ b o,base.get? b=some o->s.heap.get? b=some o/\H b=none
 bsz:base.objs.size<=s.heap.objs.size
 funs:s.heap.FunFrames base outer
 frf:∀ b∈Ug outer,H b=none
 hok:Ks P w H s.heap
 bare:AllBare s.gens
def CE (outer:List Env) (P:Program) (w:World) (H:Hp) (s:Shared) (Q:VK) (u:Value) (s':Shared):Prop:=
 ∃ v H',s'.os=s.os/\AllBare s'.gens/\Un (Ug outer) [] H H' s.heap s'.heap/\Ks P w H' s'.heap/\RelV v u/\Q v H'
def CR (CX:ao) (outer:List Env) (P:Program) (w:World) (H:Hp) (s:Shared) (Q:VK) (E:XK) (r:Result) (s':Shared):Prop:=
 match r with
 | .ok (.ret u)=>CE outer P w H s Q u s'
 | .ok _=>False
 | .error e=>CX outer H s E e s'
structure FnOk (P:Program) (w:World) (K:W.Frag) (mg:Str->Option Value) (base:Heap) (CX:ao) (k:Nat) (f:Addr) (fd:FuncData) (ps:List Str) (sp:Sp):Prop where
 len:∀ vs H Q E,sp vs H Q E->vs.length=ps.length
 run:∀ (A:Around) (outer:List Env) (s:Shared) (H:Hp) (args:Args) (us:List Value) (vs:List V) (Q:VK) (E:XK),Room k A->Env0 P w K mg base A outer s H->BindsTo s fd args (ps.zip us)->Am vs us->sp vs H Q E ->
  codeAny (model P w) A (.call (.ref f) args) (CR CX outer P w H s Q E) s
theorem FnOk.imp {P:Program} {w:World} {K:W.Frag} {mg:Str->Option Value} {base:Heap} {CX:ao} {k:Nat} {f:Addr} {fd:FuncData} {ps:List Str} {sp sp':Sp} (F:FnOk P w K mg base CX k f fd ps sp)
    (h:∀ vs H Q E,sp' vs H Q E->sp vs H Q E):FnOk P w K mg base CX k f fd ps sp':=
  ⟨fun vs H Q E q=>F.len vs H Q E (h _ _ _ _ q),fun A outer s H args us vs Q E hr he hb hv hs=>F.run A outer s H args us vs Q E hr he hb hv (h _ _ _ _ hs)⟩
section
variable {X:Cx} {pins:List (Addr×Obj)} {σ:St} {H:Hp} {s s':Shared}
theorem Inv.env0 (I:Inv X pins σ H s):Env0 X.prog X.w X.K X.mg X.base X.A X.stack s H:=
 ⟨I.ok.frames,I.ok.mod,I.bs,Nat.le_trans I.ok.bsz I.sz,I.stack,I.stkFree,I.hok,I.bare⟩
theorem Inv.after {Q:VK} {u:Value} (I:Inv X pins σ H s) (h:CE X.stack X.prog X.w H s Q u s'):EP X pins σ Q u s':=by
 obtain ⟨v,H',os,bare,un,hok,r,q⟩:=h;obtain ⟨hh,g,d,t,os'⟩:=s';obtain rfl:os'=s.os:=os;exact ⟨v,H',I.call (h':=hh) (g':=g) (d':=d) (t':=t) (ch:=[]) un hok bare (fun b z=>absurd z (by simp)),r,q⟩
end
abbrev kn (sp:Sp) (dvs:List V) (E:XK) (t:TA):TE:=fun σ H Q=>t σ H fun vs H1=>sp (vs++dvs) H1 Q E
def Binds (K:W.Frag) (fd:FuncData) (ps:List Str) (ds:List Value):Prop:=
 ∀ (s:Shared) (us:List Value),K.In s.heap->(us++ds).length=ps.length->BindsTo s fd ⟨us,[]⟩ (ps.zip (us++ds))
theorem Binds.all {K:W.Frag} {fd:FuncData} {ps:List Str} (h:∀ us:List Value,us.length=ps.length->bindArgs fd ⟨us,[]⟩=pure (ps.zip us)):Binds K fd ps []:=fun s us _ hl=>by
 rw [List.append_nil] at hl ⊢;exact .of_eq (h us hl)
def Tc (CX:ao) (X:Cx) (E:XK):Prop:=∀ (pins:List (Addr×Obj)) (σ:St) (H:Hp) (s:Shared) (e:Value) (s':Shared),Inv X pins σ H s->CX X.stack H s E e s'->X.xe e s'
section
variable {X:Cx} {CX:ao} {k:Nat} {f C:Addr} {fd:FuncData} {ps:List Str} {sp:Sp} {dvs:List V} {ds:List Value} {E:XK} {x m:Str} {p pos apos:Pos} {e o:Expr} {es:List Expr} {ta:TE} {t:TA}
theorem gr {pins:List (Addr×Obj)} {σ:St} {H:Hp} {s:Shared} {Q:VK} {us:List Value} {vs:List V} (F:FnOk X.prog X.w X.K X.mg X.base CX k f fd ps sp) (hr:Room k X.A) (hb:Binds X.K fd ps ds) (hd:Am dvs ds) (hx:Tc CX X E)
    (I:Inv X pins σ H s) (r:Am vs us) (h:sp (vs++dvs) H Q E):wpAny (model X.prog X.w) X.A (call (.ref f) us) (EP X pins σ Q) X.xe s:=by
  have r2:Am (vs++dvs) (us++ds):=r.append hd;have hl:(us++ds).length=ps.length:=by rw [<- r2.length];exact F.len _ _ _ _ h
  refine wpAny_call (codeAny_mono (F.run X.A X.stack s H ⟨us,[]⟩ (us++ds) (vs++dvs) Q E hr I.env0 (hb s us I.kIn hl) r2 h) fun r s' hq=>?_);cases r with
  | error e=>exact hx pins σ H s e s' I hq
  | ok fl =>
    cases fl with
    | ret u=>exact I.after hq
    | next=>exact False.elim hq
    | brk=>exact False.elim hq
    | cont=>exact False.elim hq
theorem bw (F:FnOk X.prog X.w X.K X.mg X.base CX k f fd ps sp) (hr:Room k X.A) (hg:Gl X x) (hm:X.mg x=some (.ref f)) (hk:W.keepIn X.K (.ref f)=true) (hb:Binds X.K fd ps ds) (hd:Am dvs ds) (hx:Tc CX X E)
    (ha:PA X (e::es) t) (hdb:(x == ("__debug__" : Str))=false:=by decide) (he:starEach (e::es) X.env=(false,eval e X.env)::starEach es X.env:=by rfl) (hpl:(backTo pos (starEach es X.env)).any (·.1)=false:=by rfl) :
    PE X (.Call (.Name x p) (e::es) [] pos) (kn sp dvs E t):=by
  intro pins s σ H Q I h;refine wpAny_Call_Name_kw (cX I hg hm ?_ hdb);refine W.callWith_K (h₀:=X.base) I.ok.mod.kin hk (CQ (ha pos pins s σ H _ I h) fun us s1 ⟨vs,H1,I1,r,q⟩=>⟨I1.kIn,?_⟩) he hpl;exact gr F hr hb hd hx I1 r q
end
section
end
structure FnScope (N P:List Str) (sc:Scope):Prop where
 kind:sc.kind=.function
 co:sc.isCoroutine=false
 gen:sc.isGenerator=false
 nd:N.Nodup
 pre:N.take P.length=P
 par:∀ x∈P,sc.names.lookup x=some .local\/sc.names.lookup x=some .cell
 nofree:∀ y∈sc.names,y.2≠.free
theorem OR {kindOf:Str->Option NameKind} {x:Str}:∀ {binds:List (Str×Value)} {m:Str->Option Value},(∀ v,(x,v)∉binds)->bindL kindOf binds m x=m x
 | [],_,_=>rfl
 | (n,v)::r,m,h=>by
  unfold bindL;rw [OR fun w hw=>h w (List.mem_cons_of_mem _ hw)];split
  ·have:x≠n:=by rintro rfl;exact h v List.mem_cons_self
   simp [this]
  ·rfl
theorem OT {kindOf:Str->Option NameKind} {x:Str}:∀ {binds:List (Str×Value)} {m:Str->Option Value},(∀ v,(x,v)∉binds)->bindC kindOf binds m x=m x
 | [],_,_=>rfl
 | (n,v)::r,m,h=>by
  unfold bindC;rw [OT fun w hw=>h w (List.mem_cons_of_mem _ hw)];split
  ·rfl
  ·have:x≠n:=by rintro rfl;exact h v List.mem_cons_self
   simp [this]
theorem OS {kindOf:Str->Option NameKind} {x:Str} {v:Value}:∀ {P:List Str} {vs:List Value} {i:Nat} {m:Str->Option Value},P.Nodup->P[i]?=some x->vs[i]?=some v->kindOf x=some .local ->
    bindL kindOf (P.zip vs) m x=some v
  | [],_,_,_,_,h,_,_=>by simp at h
  | _::_,[],_,_,_,_,h,_=>by simp at h
  | p::P,w::vs,0,m,nd,h1,h2,hk=>by
    simp at h1 h2;subst h1;subst h2;show bindL kindOf ((p,w)::P.zip vs) m p=_;unfold bindL;rw [OR fun v hv=>(List.nodup_cons.mp nd).1 (List.of_mem_zip hv).1,if_pos hk];simp
  | p::P,w::vs,i+1,m,nd,h1,h2,hk=>by
    show bindL kindOf ((p,w)::P.zip vs) m x=_;unfold bindL;exact OS (i:=i) (List.nodup_cons.mp nd).2 (by simpa using h1) (by simpa using h2) hk
theorem OU {kindOf:Str->Option NameKind} {x:Str} {v:Value}:∀ {P:List Str} {vs:List Value} {i:Nat} {m:Str->Option Value},P.Nodup->P[i]?=some x->vs[i]?=some v->kindOf x≠some .local ->
    bindC kindOf (P.zip vs) m x=some v
  | [],_,_,_,_,h,_,_=>by simp at h
  | _::_,[],_,_,_,_,h,_=>by simp at h
  | p::P,w::vs,0,m,nd,h1,h2,hk=>by
    simp at h1 h2;subst h1;subst h2;show bindC kindOf ((p,w)::P.zip vs) m p=_;unfold bindC;rw [OT fun v hv=>(List.nodup_cons.mp nd).1 (List.of_mem_zip hv).1,if_neg hk];simp
  | p::P,w::vs,i+1,m,nd,h1,h2,hk=>by
    show bindC kindOf ((p,w)::P.zip vs) m x=_;unfold bindC;exact OU (i:=i) (List.nodup_cons.mp nd).2 (by simpa using h1) (by simpa using h2) hk
def start (N:List Str) (vs:List V):St:=vs.map some++List.replicate (N.length - vs.length) none
def TN (CX:ao) (P:Program) (w:World) (K:W.Frag) (mg:Str->Option Value) (base:Heap) (N:List Str) (qual:Str) (scope:Scope) (f:Addr) (cd:Value) (A:Around) (outer:List Env) (s:Shared) (H:Hp) (E:XK):Cx where
 prog:=P
 w:=w
 K:=K
 mg:=mg
 base:=base
 A:=A.deeper (envOfC qual scope s.heap.objs.size f cd)
 N:=N
 s₀:=s
 H₀:=H
 env:=envOfC qual scope s.heap.objs.size f cd
 outer:=outer
 stack:=envOfC qual scope s.heap.objs.size f cd::outer
 ex:=[]
 calm:=true
 fn:=fun _=>true
 pn:=[]
 xe:=fun e s'=>wpAny (model P w) (A.deeper (envOfC qual scope s.heap.objs.size f cd)) (leaving (envOfC qual scope s.heap.objs.size f cd) e) (fun _ s''=>CX outer H s E e s'') (fun e' s''=>CX outer H s E e' s'') s'
theorem Rz {sc:Scope} {n:Nat} {x:Str} (h:sc.names.lookup x=some .cell):∃ c,(cellsFrom n sc.names []).lookup x=some c:=by
 have q:=W.cellsFrom_some sc.names n [] (.inl h);exact Option.isSome_iff_exists.mp q
theorem Vy {CX:ao} {P:Program} {w:World} {K:W.Frag} {mg:Str->Option Value} {base:Heap} {N ps:List Str} {qual:Str} {scope:Scope} {f:Addr} {cd:Value} {A:Around} {outer:List Env} {s s1:Shared} {H:Hp} {E:XK} {us:List Value} {vs:List V}
    (S:FnScope N ps scope) (hd:A.handled=none) (e0:Env0 P w K mg base A outer s H) (hl:vs.length=ps.length) (r:Am vs us)
    (x:InCallC s s.heap.objs.size (bindL (envOfC qual scope s.heap.objs.size f cd).kindOf (ps.zip us) fun _=>none) (cellsFrom (s.heap.objs.size+1) scope.names []) (bindC (envOfC qual scope s.heap.objs.size f cd).kindOf (ps.zip us) fun _=>none) s1) :
    Inv (TN CX P w K mg base N qual scope f cd A outer s H E) [] (start N vs) H s1:=by
  have hpl:ps.length<=N.length:=by have:=congrArg List.length S.pre;rw [List.length_take] at this;omega
  obtain ⟨h1,tk,rfl,hk⟩:=x.done;have noA:∀ b:Addr,b∉(TN CX P w K mg base N qual scope f cd A outer s H E).ex:=fun b z=>absurd (show b∈([]:List Addr) from z) (by simp)
  refine ⟨⟨e0.mod,S.kind,rfl,rfl,Nat.le_refl _,fun y z c h1 h2=>?_,fun y hy=>?_,fun y c _ h=>?_,fun _=>hd,Around.frames_deeper e0.frames,.inr ⟨rfl,rfl⟩,fun b z=>absurd z (noA b),e0.bs,e0.bsz,fun b _ _=>noA b,fun b z=>absurd z (noA b),e0.funs,e0.frf⟩,
    rfl,e0.bare,Un.kept hk,⟨_,x.toInCall.ns,fun i y v h1 h2 h3=>?_⟩,fun y c h=>⟨_,x.cell y c h⟩,e0.hok.fresh (Nat.le_refl _),fun y c h=>?_,fun p hp=>absurd (show p∈([]:List (Addr×Obj)) from hp) (by simp),e0.hok.kept hk,?_⟩
  · exact name_of_addr x.apart (PySem.mem_of_lookup h1) (PySem.mem_of_lookup h2)
  · have hy:scope.names.lookup y=some .cell\/scope.names.lookup y=some .free:=hy;rcases hy with hy | hy
    · exact Rz hy
    · exact absurd rfl (S.nofree _ (PySem.mem_of_lookup hy))
  · exact Nat.le_of_lt (x.above y c (PySem.mem_of_lookup h))
  · have hi:i < vs.length:=by
      unfold start at h2
      by_cases hi:i < vs.length
      · exact hi
      · rw [List.getElem?_append_right (by simpa using hi)] at h2;rw [List.getElem?_replicate] at h2;split at h2<;>cases h2
    have ha:vs[i]?=some v:=by
      unfold start at h2;rw [List.getElem?_append_left (by simpa using hi),List.getElem?_map] at h2;cases e:vs[i]? with
      | none=>rw [e] at h2;cases h2
      | some a=>rw [e] at h2;cases h2;rfl
    obtain ⟨u,hu,rv⟩:=r.get ha;have hp:ps[i]?=some y:=by
      rw [<- S.pre,List.getElem?_take_of_lt (by omega)];exact h1
    have ndP:ps.Nodup:=by rw [<- S.pre];exact S.nd.sublist (List.take_sublist _ _)
    refine ⟨u,rv,?_⟩;rcases S.par y (List.mem_of_getElem? hp) with k | k
    · exact .inl ⟨k,OS ndP hp hu k⟩
    · obtain ⟨c,e⟩:=Rz (n:=s.heap.objs.size+1) k;refine .inr ⟨.inl k,c,e,?_⟩;have q:=x.cell y c e;rw [OU ndP hp hu (by show scope.names.lookup y≠_;rw [k];decide)] at q;exact q
  · exact e0.hok.fresh (Nat.le_of_lt (x.above y c (PySem.mem_of_lookup h)))
  · unfold start;show _=N.length;rw [List.length_append,List.length_map,List.length_replicate];omega
theorem mW {CX:ao} {P:Program} {w:World} {K:W.Frag} {mg:Str->Option Value} {base:Heap} {k:Nat} {f:Addr} {name qual:Str} {params:Arguments} {body:List Stmt} {scope:Scope} {dV kV doc pm cdv ct oc:Value} {an od:Option Addr}
    {osl:Array (Option Value)} {N ps:List Str} {sp:Sp} (lk:K.lookup f=some ⟨oc,od,.func (W.fnOf name qual params body scope dV kV doc pm an cdv ct),osl⟩) (hcd:W.codeIn K cdv qual=true) (S:FnScope N ps scope)
    (len:∀ vs H Q E,sp vs H Q E->vs.length=ps.length)
    (hbody:∀ (A:Around) (outer:List Env) (s:Shared) (H:Hp) (vs:List V) (Q:VK) (E:XK),Room k (A.deeper (envOfC qual scope s.heap.objs.size f cdv))->sp vs H Q E ->
      ∃ t,OX (TN CX P w K mg base N qual scope f cdv A outer s H E) body t/\t { nx:=fun _ H'=>Q .non H',rt:=Q } (start N vs) H) :
    FnOk P w K mg base CX (k+1) f (W.fnOf name qual params body scope dV kV doc pm an cdv ct) ps sp:=by
  refine ⟨len,fun A outer s H args us vs Q E hr e0 hb r hsp=>?_⟩;have hl:=len _ _ _ _ hsp;have KX:K.In s.heap:=e0.mod.kin.keeps fun b o e=>(e0.bs b o e).1
  have lim:s.heap.NoLimit:=e0.mod.nolimit.keeps fun b o e=>(e0.bs b o e).1
  have hkind:∀ y∈ps.zip us,scope.names.lookup y.1=some .local\/(scope.names.lookup y.1=some .cell/\((cellsFrom (s.heap.objs.size+1) scope.names []).lookup y.1).isSome=true):=fun ⟨n,v⟩ hy=>by
    rcases S.par n (List.of_mem_zip hy).1 with q | q
    · exact .inl q
    · exact .inr ⟨q,W.cellsFrom_some _ _ _ (.inl q)⟩
  refine codeAny_call_function hr.depth (KX _ _ lk) rfl S.co S.gen rfl (W.codeRec_of KX hcd) (hb _ _ _ _ ?_);refine wpAny_newFunctionEnv_cells S.kind hkind fun env he s1 x=>?_
  subst he;refine ⟨lim.keeps x.toInCall.keep,codeAny_func ?_⟩;obtain ⟨t,ht,hq⟩:=hbody A outer s H vs Q E (hr.deeper _) hsp;have I:Inv (TN CX P w K mg base N qual scope f cdv A outer s H E) [] (start N vs) H s1:=Vy S hr.hd e0 hl r x;refine wpAny_mono (ht [] s1 (start N vs) H _ I hq) (fun fl s' hs=>?_) fun e s' hs=>hs
  have fin:∀ {σ':St} {H':Hp} {v:V} {u:Value},Inv (TN CX P w K mg base N qual scope f cdv A outer s H E) [] σ' H' s'->RelV v u->Q v H'->CE outer P w H s Q u s':=
    fun {σ' H' v u} J rv q=>⟨v,H',J.os,J.bare,J.base,J.hok,rv,q⟩
  cases fl with
  | ret u =>
    obtain ⟨v,σ',H',J,rv,q⟩:=hs;exact fin J rv q
  | next =>
    obtain ⟨σ',H',J,q⟩:=hs;exact fin (v:=V.non) (u:=Value.none) J rfl q
  | brk =>
    obtain ⟨_,_,_,q⟩:=hs;exact False.elim q
  | cont =>
    obtain ⟨_,_,_,q⟩:=hs;exact False.elim q
section
variable {X:Cx} {x:Str} {p pos:Pos} {e:Expr} {es:List Expr} {t:TA} {id T:String} {r:List V->Hp->VK->Prop}
abbrev pX (r:List V->Hp->VK->Prop) (t:TA):TE:=fun σ H Q=>t σ H fun vs H1=>r vs H1 Q
theorem Xu (hc:GP X (.builtin id) r) (hg:Gl X x) (hm:X.mg x=none) (hv:bootBuiltins x=some (.builtin id)) (ha:PA X (e::es) t) (hn:x ≠ "__name__" := by decide) (hdb:(x == ("__debug__" : Str))=false:=by decide)
    (he:starEach (e::es) X.env=(false,eval e X.env)::starEach es X.env:=by rfl) (hpl:(backTo pos (starEach es X.env)).any (·.1)=false:=by rfl):PE X (.Call (.Name x p) (e::es) [] pos) (pX r t):=by
  intro pins s σ H Q I h;refine wpAny_Call_Name_kw (Fb I hg hm hv ?_ hn hdb);exact PyProof.Rows.callWith_builtin1 (CQ (ha pos pins s σ H _ I h) fun us s1 ⟨vs,H1,I1,r1,q1⟩=>hc pins s1 σ H1 vs us Q I1 r1 q1) he hpl
theorem Vd (hc:GP X (.type T) r) (hg:Gl X x) (hm:X.mg x=none) (hv:bootBuiltins x=some (.type T)) (ha:PA X (e::es) t) (hn:x ≠ "__name__" := by decide) (hdb:(x == ("__debug__" : Str))=false:=by decide)
    (he:starEach (e::es) X.env=(false,eval e X.env)::starEach es X.env:=by rfl) (hpl:(backTo pos (starEach es X.env)).any (·.1)=false:=by rfl):PE X (.Call (.Name x p) (e::es) [] pos) (pX r t):=by
  intro pins s σ H Q I h;refine wpAny_Call_Name_kw (Fb I hg hm hv ?_ hn hdb);exact PyProof.Rows.callWith_type1 (CQ (ha pos pins s σ H _ I h) fun us s1 ⟨vs,H1,I1,r1,q1⟩=>hc pins s1 σ H1 vs us Q I1 r1 q1) he hpl
end
end L2
namespace HT
open PySem PyProof.Rows
section
open PySem.SeqAt
open PySem.AutoSeq1 (wpAny_loadPart')
open PySem.MeetsSeq PySem.MeetsSeq2 PySem.MeetsSeq3
end
section
variable {prog:Program} {w:World} {A:Around} {E:Value->Shared->Prop} {s:Shared}
theorem cat_tup {t b:Addr} {vs ws:List Value} {Q:Value->Shared->Prop} (ht:IsTup s.heap t vs.toArray) (hb:IsTup s.heap b ws.toArray) (hv:vs≠[])
    (h1:ws=[]->Q (.ref t) s) (h2:ws≠[]->Q (.ref s.heap.objs.size) { s with heap:=s.heap.push { cls:=.type "tuple", data:=.seq (vs++ws).toArray } })
    (hsz:vs.length+ws.length<=sizeLine):wpAny (model prog w) A (binaryOp .Add (.ref t) (.ref b)) Q E s:=by
  obtain ⟨⟨cls,dd,data,sl⟩,ho,hc,n,hd⟩:=id ht;obtain ⟨⟨cls2,dd2,data2,sl2⟩,ho2,hc2,n2,hd2⟩:=id hb;simp only at hc hd hc2 hd2;subst hc hd hc2 hd2;have e:vs.toArray++ws.toArray=(vs++ws).toArray:=by simp
  by_cases hw:ws=[]
  · exact concat_meets ⟨_,ho,rfl⟩ ⟨_,ho2,rfl⟩ noFill_tuple_add seq_tuple_add PySem.F.slot_tuple_add PySem.F.entry_tuple_add (PySem.F.args_tuple_add_2 _ _)
      (tuple_addW1 t b vs.toArray ws.toArray n n2 dd dd2 sl sl2 (by simpa using hv) (by simp [hw])) ⟨ho,ho2,h1 hw⟩
  · refine concat_meets ⟨_,ho,rfl⟩ ⟨_,ho2,rfl⟩ noFill_tuple_add seq_tuple_add PySem.F.slot_tuple_add PySem.F.entry_tuple_add (PySem.F.args_tuple_add_2 _ _)
      (tuple_addW2 t b vs.toArray ws.toArray n n2 dd dd2 sl sl2 (by simpa using hv) (by simpa using hw) (by rw [List.size_toArray,List.size_toArray];exact hsz)) ⟨ho,ho2,?_⟩
    rw [e];exact h2 hw
noncomputable def sIx (n d:Nat):Option Int->Nat
 | none=>d
 | some v=>if v < 0 then (v+(n:Int)).toNat else min v.toNat n
theorem sIx_le (n d:Nat) (hd:d<=n) (o:Option Int):sIx n d o<=n:=by
 cases o with
 | none=>exact hd
 | some v =>
  show (if v < 0 then (v+(n:Int)).toNat else min v.toNat n)<=n
  by_cases hv:v < 0
  ·rw [if_pos hv];omega
  ·rw [if_neg hv];exact Nat.min_le_right _ _
theorem Uo (v:Int) (n d:Nat):(if v < 0 then max (v+(n:Int)) 0 else min v (n:Int))=((sIx n d (some v):Nat):Int):=by
 show (if v < 0 then max (v+(n:Int)) 0 else min v (n:Int))=(((if v < 0 then (v+(n:Int)).toNat else min v.toNat n):Nat):Int)
 by_cases hv:v < 0
 ·simp only [if_pos hv];omega
 ·simp only [if_neg hv];omega
theorem Ta (lo hi:Option Int) (n:Nat):Builtin.Slice.sliceAdjust lo hi 1 (n:Int)=(((sIx n 0 lo:Nat):Int),((sIx n n hi:Nat):Int)):=by
 have h1:¬ ((1:Int) < 0):=by omega
 unfold Builtin.Slice.sliceAdjust;simp only [h1,if_false];refine Prod.ext ?_ ?_
 ·cases lo with
  | none=>rfl
  | some v=>exact Uo v n 0
 ·cases hi with
  | none=>rfl
  | some v=>exact Uo v n n
theorem Sh (i j:Nat):Builtin.Slice.slicePlaces (i:Int) (j:Int) 1=j - i:=by
 unfold Builtin.Slice.slicePlaces;have h1:(1:Int) > 0:=by omega
 simp only [h1,if_true,Int.ediv_one];split<;>omega
theorem Lm {v:Value} {o:Option Int} {Q:Option Int->Shared->Prop} (p:IsPart v o) (h:Q o s):wpAny (model prog w) A (Builtin.Slice.slicePartIndex v) Q E s:=by
 cases p with
 | none=>exact slicePart_none h
 | int i t=>exact slicePart_int h
theorem sliceApplied_gen {sl:Addr} {vl vu:Value} {lo hi:Option Int} {n:Nat} {Q:Int×Int×Nat->Shared->Prop} (hs:s.heap.IsSliceOf sl vl vu .none) (pl:IsPart vl lo) (pu:IsPart vu hi)
    (h:Q (((sIx n 0 lo:Nat):Int),1,sIx n n hi - sIx n 0 lo) s):wpAny (model prog w) A (Builtin.Slice.sliceApplied (.ref sl) (pure (n:Int))) Q E s:=by
  obtain ⟨os,hos,hcs,hds⟩:=id hs;unfold Builtin.Slice.sliceApplied Builtin.Slice.sliceFields;refine wpAny_bind (wpAny_bind (wpAny_field hos hds (x:=vl) rfl (wpAny_bind (wpAny_field hos hds (x:=vu) rfl (wpAny_bind (wpAny_field hos hds (x:=.none) rfl (wpAny_pure ?_)))))));refine wpAny_bind (slicePart_none ?_);show wpAny _ _ (if ((1:Int) == 0)=true then _ else _) _ _ s;rw [if_neg (by decide)];refine wpAny_bind (Lm pl (wpAny_bind (Lm pu (wpAny_bind (wpAny_pure ?_)))));show wpAny _ _ (match Builtin.Slice.sliceAdjust lo hi 1 (n:Int) with | (lo,hi)=>pure (lo,(1:Int),Builtin.Slice.slicePlaces lo hi 1)) _ _ s;rw [Ta lo hi n];show wpAny _ _ (pure (((sIx n 0 lo:Nat):Int),(1:Int),Builtin.Slice.slicePlaces ((sIx n 0 lo:Nat):Int) ((sIx n n hi:Nat):Int) 1)) _ _ s;rw [Sh];exact wpAny_pure h
theorem Xq (xs:Array Value) (i k:Nat):((List.range k).filterMap fun (m:Nat)=>xs[((i:Int)+(m:Int) * 1).toNat]?).toArray=((xs.toList.drop i).take k).toArray:=by
 have e:(fun (m:Nat)=>xs[((i:Int)+(m:Int) * 1).toNat]?)=fun m=>xs[i+m]?:=by
  funext m;have:((i:Int)+(m:Int) * 1).toNat=i+m:=by omega
  rw [this]
 rw [e];have:=pick_run xs i k;rw [List.filterMap_map] at this;have e2:((fun x=>xs[x]?)∘fun x=>i+x)=fun m=>xs[i+m]?:=rfl
 rw [e2] at this;rw [this]
theorem getItem_tuple_cut {t sl:Addr} {items:Array Value} {vl vu:Value} {lo hi:Option Int} {Q:Value->Shared->Prop} (ht:IsTup s.heap t items) (hs:s.heap.IsSliceOf sl vl vu .none) (pl:IsPart vl lo) (pu:IsPart vu hi)
    (hw:¬ (sIx items.size 0 lo=0/\sIx items.size items.size hi=items.size))
    (h:Q (.ref s.heap.objs.size) { s with heap:=s.heap.push { cls:=.type "tuple", data:=.seq ((items.toList.drop (sIx items.size 0 lo)).take (sIx items.size items.size hi - sIx items.size 0 lo)).toArray } })
    (hsz:items.size<=sizeLine):wpAny (model prog w) A (getItem (.ref t) (.ref sl)) Q E s:=by
  have htake:sizeOk (.seq ((items.toList.drop (sIx items.size 0 lo)).take (sIx items.size items.size hi - sIx items.size 0 lo)).toArray):=by
    show ((items.toList.drop (sIx items.size 0 lo)).take (sIx items.size items.size hi - sIx items.size 0 lo)).toArray.size<=sizeLine;rw [List.size_toArray,List.length_take,List.length_drop,Array.length_toList];omega
  have hj:sIx items.size items.size hi<=items.size:=sIx_le _ _ (Nat.le_refl _) hi;obtain ⟨os,hos,hcs,hds⟩:=id hs
  have hTs:s.TypeIs (.ref sl) "slice" := ⟨os,hos,hcs⟩
  unfold getItem
  try with_reducible refine wpAny_holding ?_
  first | refine wpAny_bind (wpAny_pure ?_) | skip
  refine wpAny_bind (wpAny_sequenceKey ht.typeIs (by decide) ?_)
  refine wpAny_bind (wpAny_callSpecial?_slot (name:=Str.ofString "__getitem__") ht.typeIs PyProof.Rows.slot_tuple_getitem
    (wpAny_call_entry PyProof.Rows.slot_tuple_getitem ht.typeIs entry_tuple_getitem ?_ (args_tuple_getitem _ _)))
  show wpAny _ _ (Builtin.Tuple.tupleItemsOf (.ref t) >>= _) _ _ s;refine wpAny_bind (tupleItemsOf_ ht ?_);refine wpAny_bind (wpAny_typeOf hTs ?_);rw [if_pos (by decide)];refine wpAny_bind (sliceApplied_gen hs pl pu ?_);have hno:¬ ((((sIx items.size 0 lo:Nat):Int) == 0 && (1:Int) == 1 && (sIx items.size items.size hi - sIx items.size 0 lo) == items.size)=true):=by
    intro q;rw [Bool.and_eq_true,Bool.and_eq_true] at q;have q1:((sIx items.size 0 lo:Nat):Int)=0:=eq_of_beq q.1.1;have q2:sIx items.size items.size hi - sIx items.size 0 lo=items.size:=eq_of_beq q.2;exact hw ⟨by omega,by omega⟩
  show wpAny _ _ (if (((sIx items.size 0 lo:Nat):Int) == 0 && (1:Int) == 1 && (sIx items.size items.size hi - sIx items.size 0 lo) == items.size)=true then _ else _) _ _ s;rw [if_neg hno,Xq]
  first
    | exact wpAny_bind (m:=Builtin.Tuple.tupleExact _) (wpAny_newObj_type (wpAny_pure ⟨_,rfl,wpAny_pure h⟩) htake)
    | exact wpAny_bind (m:=Builtin.Tuple.tupleExact _) (wpAny_newObj_type (wpAny_bind (wpAny_pure (wpAny_pure ⟨_,rfl,wpAny_pure h⟩))) htake)
    | exact wpAny_bind (wpAny_bind (m:=Builtin.Tuple.tupleExact _) (wpAny_newObj_type (wpAny_pure (wpAny_pure ⟨_,rfl,wpAny_pure h⟩)) htake))
    | exact wpAny_bind (wpAny_bind (m:=Builtin.Tuple.tupleExact _) (wpAny_newObj_type (wpAny_pure ⟨_,rfl,wpAny_pure h⟩) htake))
end
end HT
namespace L2
open PySem PySem.Spec PyProof.Rows
abbrev TO:=St->Hp->(Option Int->Hp->Prop)->Prop
def PO (X:Cx) (e:Option Expr) (t:TO):Prop:=
 ∀ (pins:List (Addr×Obj)) (s:Shared) (σ:St) (H:Hp) (Q:Option Int->Hp->Prop),Inv X pins σ H s->t σ H Q ->
  wpAny (model X.prog X.w) X.A (evalPart e X.env) (fun u s'=>∃ o H',Inv X pins σ H' s'/\IsPart u o/\Q o H') X.xe s
abbrev bB:TO:=fun _ H Q=>Q none H
abbrev kc (t:TE):TO:=fun σ H Q=>t σ H fun x H1=>∃ i,x=.int i/\Q (some i) H1
section
variable {X:Cx} {e:Expr} {te:TE} {lo hi:Option Expr} {tl th:TO} {pos p2:Pos}
theorem UB:PO X none bB:=by
 intro pins s σ H Q I h;rw [evalPart_none];exact wpAny_pure ⟨none,H,I,.none,h⟩
theorem LA (h:PE X e te):PO X (some e) (kc te):=by
 intro pins s σ H Q I hw;rw [evalPart_some];refine CQ (h pins s σ H _ I hw) fun u s1 ⟨x,H1,I1,r1,q1⟩=>?_
 obtain ⟨i,rfl,q⟩:=q1;obtain ⟨t,rfl⟩:=r1;exact ⟨some i,H1,I1,.int i t,q⟩
def ae (X:Cx) (r:V->Option Int->Option Int->Hp->VK->Prop):Prop:=
 ∀ (pins:List (Addr×Obj)) (s:Shared) (σ:St) (H:Hp) (x:V) (v vl vu:Value) (lo hi:Option Int) (sl:Addr) (Q:VK),Inv X pins σ H s->RelV x v->s.heap.IsSliceOf sl vl vu .none->IsPart vl lo->IsPart vu hi->r x lo hi H Q ->
  ∃ T id,typeLookup (.type T) "__getitem__" = pure (some (.builtin id))/\s.TypeIs v T/\wpAny (model X.prog X.w) X.A (getItem v (.ref sl)) (EP X pins σ Q) X.xe s
theorem ae.or {r r':V->Option Int->Option Int->Hp->VK->Prop} (h:ae X r) (h':ae X r'):ae X (fun x lo hi H Q=>r x lo hi H Q\/r' x lo hi H Q):=by
 intro pins s σ H x v vl vu lo hi sl Q I rx hs pl pu q;rcases q with q | q
 ·exact h pins s σ H x v vl vu lo hi sl Q I rx hs pl pu q
 ·exact h' pins s σ H x v vl vu lo hi sl Q I rx hs pl pu q
abbrev qi (r:V->Option Int->Option Int->Hp->VK->Prop) (te:TE) (tl th:TO):TE:=fun σ H Q=>te σ H fun x H1=>tl σ H1 fun l H2=>th σ H2 fun u H3=>r x l u H3 Q
theorem Lx {r:V->Option Int->Option Int->Hp->VK->Prop} (hr:ae X r) (he:PE X e te) (hl:PO X lo tl) (hu:PO X hi th):PE X (.Subscript e (.Slice lo hi none p2) pos) (qi r te tl th):=by
 intro pins s σ H Q I h;refine Subscript_ (CQ (he pins s σ H _ I h) fun v s1 ⟨x,H1,I1,r1,q1⟩=>?_);refine wpAny_Slice (CQ (hl pins s1 σ H1 _ I1 q1) fun vl s2 ⟨l,H2,I2,pl,q2⟩=>CQ (hu pins s2 σ H2 _ I2 q2) fun vu s3 ⟨u,H3,I3,pu,q3⟩=>?_);rw [evalPart_none];refine wpAny_pure ?_
 have I4:Inv X pins σ H3 { s3 with heap:=s3.heap.push { cls:=.type "slice", data:=.fields #[vl,vu,.none] } }:=I3.kept (t':=s3.toks) fun b ob q=>Heap.get?_push_of_some _ q
 obtain ⟨T,id,hT,ht,hg⟩:=hr pins { s3 with heap:=s3.heap.push { cls:=.type "slice", data:=.fields #[vl,vu,.none] } } σ H3 x v vl vu l u s3.heap.objs.size Q I4 r1 (Heap.IsSliceOf.new ..) pl pu q3
 show wpAny (model X.prog X.w) X.A (subscriptTail e (.Slice lo hi none p2) v (.ref s3.heap.objs.size)) (EP X pins σ Q) X.xe { s3 with heap:=s3.heap.push { cls:=.type "slice", data:=.fields #[vl,vu,.none] } }
 exact tail_any (ops:=[.ref s3.heap.objs.size,v]) ht hT hg (by with_unfolding_all rfl)
def Jk (xs:List V) (lo hi:Option Int):List V:=(xs.drop (HT.sIx xs.length 0 lo)).take (HT.sIx xs.length xs.length hi - HT.sIx xs.length 0 lo)
theorem Kd (xs:List V) (lo hi:Option Int):(Jk xs lo hi).length<=xs.length:=by
 unfold Jk;rw [List.length_take,List.length_drop];omega
def kv (K:W.Frag):V->Option Int->Option Int->Hp->VK->Prop:=fun x lo hi H Q=>∃ a xs,x=.ref a/\IK K H a xs /\
 ¬ (HT.sIx xs.length 0 lo=0/\HT.sIx xs.length xs.length hi=xs.length)/\∀ p,H p=none->Q (.ref p) (upd H p (.tup (Jk xs lo hi)))
theorem gk:ae X (kv X.K):=by
 intro pins s σ H x v vl vu lo hi sl Q I rx hs pl pu h;obtain ⟨a,xs,rfl,hx,hw,q⟩:=h;cases rx;obtain ⟨its,r,ht,hz⟩:=I.tuple hx;have hlen:its.toArray.size=xs.length:=by rw [List.size_toArray];exact r.length.symm
 refine ⟨"tuple", _,PyProof.Rows.slot_tuple_getitem.lookup,ht.typeIs,?_⟩
 refine HT.getItem_tuple_cut ht hs pl pu (by rw [hlen];exact hw) ?_ (by rw [hlen];exact hz);rw [hlen];refine ⟨.ref s.heap.objs.size,_,I.laid (t':=s.toks) (o:=.tup (Jk xs lo hi)) (fun b ob q=>Heap.get?_push_of_some _ q) (Nat.le_refl _) ?_,rfl,q _ (I.hok.fresh (Nat.le_refl _))⟩;exact ⟨Nat.le_trans (Kd xs lo hi) hz,_,(r.drop (HT.sIx xs.length 0 lo)).take (HT.sIx xs.length xs.length hi - HT.sIx xs.length 0 lo),Kr.new _ _⟩
def eL (K:W.Frag):R2:=fun x y H Q=>∃ a b xs ys,x=.ref a/\y=.ref b/\IK K H a xs/\IK K H b ys/\xs≠[]/\xs.length+ys.length<=sizeLine /\
 (ys=[]->Q (.ref a) H)/\(ys≠[]->∀ p,H p=none->Q (.ref p) (upd H p (.tup (xs++ys))))
theorem Am.nil_iff {xs:List V} {us:List Value} (r:Am xs us):us=[]↔xs=[]:=by
 cases r with
 | nil=>simp
 | cons _ _=>simp
theorem cC:FW X (binaryOp .Add) (eL X.K):=by
 intro pins s σ H x y v u Q I rx ry h;obtain ⟨a,b,xs,ys,rfl,rfl,ha,hb,hx,hz,q1,q2⟩:=h;cases rx;cases ry;obtain ⟨its,r1,p1,_⟩:=I.tuple ha;obtain ⟨its2,r2,p2,_⟩:=I.tuple hb;refine HT.cat_tup p1 p2 (fun z=>hx (r1.nil_iff.mp z)) (fun z=>⟨.ref a,H,I,rfl,q1 (r2.nil_iff.mp z)⟩) (fun z=>?_) (by rw [<- r1.length,<- r2.length];exact hz);refine ⟨.ref s.heap.objs.size,_,I.laid (t':=s.toks) (o:=.tup (xs++ys)) (fun b ob q=>Heap.get?_push_of_some _ q) (Nat.le_refl _) ?_,rfl,q2 (fun w=>z (r2.nil_iff.mpr w)) _ (I.hok.fresh (Nat.le_refl _))⟩;exact ⟨by rw [List.length_append];exact hz,_,r1.append r2,Kr.new _ _⟩
end
noncomputable def Qb (n:Nat) (i:Int):Option Nat:=if 0<=i then (if i < n then some i.toNat else none) else if -(n:Int)<=i then some (i+n).toNat else none
def Gy {α:Type} (xs:List α) (i:Int):Option α:=(Qb xs.length i).bind fun j=>xs[j]?
theorem Uc {n:Nat} {i:Int} {j:Nat} (h:Qb n i=some j):seqIndex? i n=some j/\j < n/\-(n:Int)<=i/\i < n:=by
 unfold Qb at h
 by_cases h0:0<=i
 ·rw [if_pos h0] at h
  by_cases h1:i < n
  ·rw [if_pos h1] at h;have e:i.toNat=j:=Option.some.inj h;exact ⟨by rw [seqIndex_of h0 h1,e],by omega,by omega,h1⟩
  ·rw [if_neg h1] at h;cases h
 ·rw [if_neg h0] at h
  by_cases h1:-(n:Int)<=i
  ·rw [if_pos h1] at h;have e:(i+n).toNat=j:=Option.some.inj h;exact ⟨by rw [seqIndex_neg (by omega) h1,e],by omega,h1,by omega⟩
  ·rw [if_neg h1] at h;cases h
theorem QR {α:Type} {xs:List α} {i:Int} {v:α} (h:Gy xs i=some v):∃ j,seqIndex? i xs.length=some j/\xs[j]?=some v/\j < xs.length/\-(xs.length:Int)<=i/\i < xs.length:=by
 unfold Gy at h;cases e:Qb xs.length i with
 | none=>rw [e] at h;cases h
 | some j =>
  rw [e] at h;obtain ⟨h1,h2,h3,h4⟩:=Uc e;exact ⟨j,h1,h,h2,h3,h4⟩
theorem atI_nat {α:Type} {xs:List α} {j:Nat} {v:α} (h:xs[j]?=some v):Gy xs (j:Int)=some v:=by
 have hj:j < xs.length:=(List.getElem?_eq_some_iff.mp h).1;have e:Qb xs.length (j:Int)=some j:=by
  unfold Qb;rw [if_pos (by omega),if_pos (by omega)];simp
 unfold Gy;rw [e];exact h
def QZ (b:Expr):Prop:=∀ o i,subscripted b false o i=operate [o,i] (getItem o i)
def WY (X:Cx) (r:R2):Prop:=
 ∀ (value slice:Expr) (pins:List (Addr×Obj)) (s:Shared) (σ:St) (H:Hp) (x y:V) (v u:Value) (Q:VK),Inv X pins σ H s->RelV x v->RelV y u->r x y H Q ->
  subscripted slice false v u=operate [v,u] (getItem v u)->wpAny (model X.prog X.w) X.A (subscriptTail value slice v u) (EP X pins σ Q) X.xe s
def ah (X:Cx) (id:String) (r:V->List V->Hp->VK->Prop):Prop:=
 ∀ (pins:List (Addr×Obj)) (s:Shared) (σ:St) (H:Hp) (x:V) (xs:List V) (v:Value) (us:List Value) (Q:VK),Inv X pins σ H s->RelV x v->Am xs us->r x xs H Q ->
  wpAny (model X.prog X.w) X.A (call (.builtin id) (v::us)) (EP X pins σ Q) X.xe s
section
variable {X:Cx} {a b:Expr} {ta tb:TE} {pos:Pos}
theorem WY.or {r r':R2} (h:WY X r) (h':WY X r'):WY X (fun x y H Q=>r x y H Q\/r' x y H Q):=by
 intro value slice pins s σ H x y v u Q I rx ry q hs;rcases q with q | q
 ·exact h value slice pins s σ H x y v u Q I rx ry q hs
 ·exact h' value slice pins s σ H x y v u Q I rx ry q hs
theorem lT {r:R2} (hr:WY X r) (ha:PE X a ta) (hb:PE X b tb) (hs:QZ b):PE X (.Subscript a b pos) (nE r ta tb):=by
 intro pins s σ H Q I h;exact Subscript_ (jr ha hb I h fun v u s2 x y H2 I2 rx ry q=>hr a b pins s2 σ H2 x y v u Q I2 rx ry q (hs _ _))
def lF (K:W.Frag):R2:=fun x y H Q=>∃ p xs i v,x=.ref p/\y=.int i/\HC K H p xs/\Gy xs i=some v/\Q v H
def lD (K:W.Frag):R2:=fun x y H Q=>∃ p xs i v,x=.ref p/\y=.int i/\IK K H p xs/\Gy xs i=some v/\Q v H
def lE:R2:=fun x y H Q=>∃ z i c,x=.str z/\y=.int i/\z.length<=sizeLine/\Gy z.cps.toList i=some c/\Q (.str ⟨#[c]⟩) H
theorem cY:WY X (lF X.K):=by
  intro value slice pins s σ H x y v u Q I rx ry h hs;obtain ⟨p,xs,i,z,rfl,rfl,hq,he,q⟩:=h;cases rx;obtain ⟨t,rfl⟩:=ry;obtain ⟨its,r,pl,hz⟩:=I.list hq;obtain ⟨j,h1,h2,h3,h4,h5⟩:=QR he;obtain ⟨w,ew,rw'⟩:=r.get h2;have hl:=r.length;have hn:=KA;have fin:EP X pins σ Q w s:=⟨z,H,I,rw',q⟩
  by_cases h0:0<=i
  · have hj:i.toNat=j:=by
      rw [seqIndex_of h0 h5] at h1;exact Option.some.inj h1
    exact item_listR pl.isList h0 (by omega) (by rw [hj];simpa using ew) fin hs
  · have hj:(i+(its.toArray.size:Int)).toNat=j:=by
      rw [seqIndex_neg (by omega) h4] at h1;rw [List.size_toArray,<- hl];exact Option.some.inj h1
    exact subscriptTail_builtinR (x:=w) pl.isList.typeIs slot_list_getitem.lookup
      (wpAny_getItem_list_neg (Q:=fun r s'=>r=w/\EP X pins σ Q r s') pl.isList (by omega) (by rw [List.size_toArray]<;>omega) (by omega) (by rw [hj];simpa using ew) ⟨rfl,fin⟩) hs
theorem jM:WY X (lD X.K):=by
 intro value slice pins s σ H x y v u Q I rx ry h hs;obtain ⟨p,xs,i,z,rfl,rfl,hq,he,q⟩:=h;cases rx;obtain ⟨t,rfl⟩:=ry;obtain ⟨its,r,pl,hz⟩:=I.tuple hq;obtain ⟨j,h1,h2,h3,h4,h5⟩:=QR he;obtain ⟨w,ew,rw'⟩:=r.get h2;have hl:=r.length;have hn:=KA;have fin:EP X pins σ Q w s:=⟨z,H,I,rw',q⟩;exact subscriptTail_builtinR (x:=w) pl.typeIs slot_tuple_getitem.lookup
  (getItem_tuple (j:=j) (Q:=fun r s'=>r=w/\EP X pins σ Q r s') pl (by omega) (by omega) (by rw [List.size_toArray,<- hl];exact h1) (by simpa using ew) ⟨rfl,fin⟩) hs
theorem jN:WY X lE:=by
 intro value slice pins s σ H x y v u Q I rx ry h hs;obtain ⟨z,i,c,rfl,rfl,hz,he,q⟩:=h;obtain ⟨t,rfl⟩:=rx;obtain ⟨t',rfl⟩:=ry;obtain ⟨j,h1,h2,h3,h4,h5⟩:=QR he;have hl:z.cps.toList.length=z.length:=by simp [Str.length]
 rw [hl] at h1 h4 h5;have hn:=KA;exact tail_any (typeIs_str s z t) slot_str_getitem.lookup (getItem_str (c:=c) (by
  have e1:decide (i < -(2 ^ 63:Int))=false:=decide_eq_false (by omega);have e2:decide (i >= 2 ^ 63)=false:=decide_eq_false (by omega);rw [e1,e2,Bool.or_false]) (by rw [h1];simpa using h2) ⟨.str ⟨#[c]⟩,H,I.tok _,⟨_,rfl⟩,q⟩) hs
def gw (K:W.Frag):R2:=fun x y H Q=>lF K x y H Q\/lD K x y H Q\/lE x y H Q
theorem jO:WY X (gw X.K):=cY.or (jM.or jN)
theorem Sx (its:List Value) (n j:Nat) (u:Value):Obj.mapSeq (·.setIfInBounds j u) { cls:=.type "list", data:=.seq its.toArray n }={ cls:=.type "list", data:=.seq (its.set j u).toArray n }:=by
 simp [Obj.mapSeq]
theorem Inv.lst {pins:List (Addr×Obj)} {σ:St} {H:Hp} {s:Shared} {p:Addr} {xs:List V} (I:Inv X pins σ H s) (h:H p=some (.lst xs)) :
    ∃ (its:List Value) (n:Nat),Am xs its/\s.heap.get? p=some { cls:=.type "list", data:=.seq its.toArray n }/\xs.length<=sizeLine:=by
  obtain ⟨z,its,n,r,e⟩:=I.hok p _ h;exact ⟨its,n,r,e,z⟩
theorem Inv.lstUpd {pins:List (Addr×Obj)} {σ:St} {H:Hp} {s:Shared} {p:Addr} {xs ys:List V} {its its':List Value} {n n':Nat} {f:Obj->Obj} (I:Inv X pins σ H s) (h:H p=some (.lst xs))
    (ho:s.heap.get? p=some { cls:=.type "list", data:=.seq its.toArray n }) (hf:f { cls:=.type "list", data:=.seq its.toArray n }={ cls:=.type "list", data:=.seq its'.toArray n' }) (r:Am ys its') (hz:ys.length<=sizeLine) (t:Nat) :
    Inv X pins σ (upd H p (.lst ys)) { s with heap:=s.heap.update p f,toks:=t }:=by
  have e:(s.heap.update p f).get? p=some { cls:=.type "list", data:=.seq its'.toArray n' }:=by
    rw [Heap.get?_update_self f ho (by rw [hf]<;>rfl),hf]
  refine I.write (x:=p) (e:=p) (by rw [h];trivial) (.inl rfl) (fun b u hb q=>(Heap.get?_update_other _ _ (Ne.symm hb)).trans q) ⟨_,e⟩ ?_;exact ⟨hz,its',n',r,e⟩
def XX:V->V->V->Hp->(Hp->Prop)->Prop:=fun o i v H Q=>∃ p xs k j,o=.ref p/\i=.int k/\H p=some (.lst xs)/\Qb xs.length k=some j/\Q (upd H p (.lst (xs.set j v)))
theorem set_list:kF X XX:=by
  intro pins s σ H o i v ov iv u Q I ro ri rv h;obtain ⟨p,xs,k,j,rfl,rfl,hp,hj,q⟩:=h;cases ro;obtain ⟨t,rfl⟩:=ri;obtain ⟨its,n,r,ho,hz⟩:=I.lst hp;obtain ⟨h1,h2,h3,h4⟩:=Uc hj;have hl:=r.length;have hn:=KA;have I':Inv X pins σ (upd H p (.lst (xs.set j v))) { s with heap:=s.heap.update p (Obj.mapSeq (·.setIfInBounds j u)) }:=
    I.lstUpd hp ho (Sx its n j u) (r.set rv j) (by rw [List.length_set];exact hz) s.toks
  by_cases h0:0<=k
  · have hk:k.toNat=j:=by
      rw [seqIndex_of h0 h4] at h1;exact Option.some.inj h1
    exact W.ki_setAt ho h0 (by omega) (by rw [List.size_toArray,<- hl];exact h4) (by rw [hk];exact ⟨_,I',q⟩)
  · have hk:(k+(its.toArray.size:Int)).toNat=j:=by
      rw [seqIndex_neg (by omega) h3] at h1;rw [List.size_toArray,<- hl];exact Option.some.inj h1
    exact W.ki_setBack ho (by omega) (by rw [List.size_toArray,<- hl];exact h3) (by omega) (by rw [hk];exact ⟨_,I',q⟩)
theorem On (lo hi:Option Int) (n:Nat):(sliceBounds lo hi none n).1=((HT.sIx n 0 lo:Nat):Int)/\(sliceBounds lo hi none n).2.1=((HT.sIx n n hi:Nat):Int)/\(sliceBounds lo hi none n).2.2=1:=by
 refine ⟨?_,?_,rfl⟩
 ·cases lo with
  | none=>simp [sliceBounds,HT.sIx]
  | some i =>
   simp only [sliceBounds,HT.sIx,Option.getD_none,show (1:Int) > 0 by decide,if_true]
   by_cases h:i < 0
   ·simp only [h,if_true]<;>omega
   ·simp only [h,if_false]<;>omega
 ·cases hi with
  | none=>simp [sliceBounds,HT.sIx]
  | some i =>
   simp only [sliceBounds,HT.sIx,Option.getD_none,show (1:Int) > 0 by decide,if_true]
   by_cases h:i < 0
   ·simp only [h,if_true]<;>omega
   ·simp only [h,if_false]<;>omega
theorem NL (its:List Value) (lo hi:Option Int):slicePick its.toArray lo hi none=((its.drop (HT.sIx its.length 0 lo)).take (HT.sIx its.length its.length hi - HT.sIx its.length 0 lo)).toArray:=by
 obtain ⟨h1,h2,h3⟩:=On lo hi its.toArray.size;unfold slicePick;rw [h1,h2,h3];simp only [sliceRange_one,pick_run,List.size_toArray]<;>rfl
def kz (K:W.Frag):V->Option Int->Option Int->Hp->VK->Prop:=fun x lo hi H Q=>∃ a xs,x=.ref a/\HC K H a xs/\∀ p,H p=none->Q (.ref p) (upd H p (.lst (Jk xs lo hi)))
theorem bK:ae X (kz X.K):=by
 intro pins s σ H x v vl vu lo hi sl Q I rx hs pl pu h;obtain ⟨a,xs,rfl,hx,q⟩:=h;cases rx;obtain ⟨its,r,ht,hz⟩:=I.list hx;have hlen:=r.length
 refine ⟨"list", _,slot_list_getitem.lookup,ht.isList.typeIs,?_⟩
 refine wpAny_getItem_list_slice ht.isList hs pl pu .none (by simp) ?_ (by rw [List.size_toArray]<;>omega);rw [NL,<- hlen];refine ⟨.ref s.heap.objs.size,_,I.laid (t':=s.toks) (o:=.lst (Jk xs lo hi)) (fun b ob q=>Heap.get?_push_of_some _ q) (Nat.le_refl _) ?_,rfl,q _ (I.hok.fresh (Nat.le_refl _))⟩;exact ⟨Nat.le_trans (Kd xs lo hi) hz,_,0,(r.drop (HT.sIx xs.length 0 lo)).take (HT.sIx xs.length xs.length hi - HT.sIx xs.length 0 lo),Heap.get?_push_size _ rfl⟩
noncomputable def Jd:V->Bool
 | .non=>true
 | .bl _=>true
 | .int _=>true
 | .str _=>true
 | _=>false
noncomputable def eqV:V->V->Bool
 | .non,.non=>true
 | .bl a,.bl b=>a == b
 | .bl a,.int b=>(if a then 1 else 0) == b
 | .int a,.bl b=>a == (if b then 1 else 0)
 | .int a,.int b=>a == b
 | .str a,.str b=>a == b
 | _,_=>false
theorem jX {A:Around} {s:Shared} {y x:V} {u v:Value} (ry:RelV y u) (rx:RelV x v) (fy:Jd y=true) (fx:Jd x=true):SeqAt.EqAt A s u v (eqV y x):=by
 cases y with
 | non =>
  cases ry;cases x with
  | non=>cases rx;exact SeqAt.EqAt.same _
  | bl b=>cases rx;exact SeqAt.EqAt.none_bool b
  | int b=>obtain ⟨t,rfl⟩:=rx;exact SeqAt.EqAt.none_int b t
  | str b=>obtain ⟨t,rfl⟩:=rx;exact SeqAt.EqAt.none_str b t
  | _=>exact absurd (show false=true from fx) Bool.false_ne_true
 | bl a =>
  cases ry;cases x with
  | non=>cases rx;exact SeqAt.EqAt.bool_none a
  | bl b=>cases rx;exact SeqAt.EqAt.bool_bool a b
  | int b=>obtain ⟨t,rfl⟩:=rx;exact SeqAt.EqAt.bool_int a b t
  | str b=>obtain ⟨t,rfl⟩:=rx;exact SeqAt.EqAt.bool_str a b t
  | _=>exact absurd (show false=true from fx) Bool.false_ne_true
 | int a =>
  obtain ⟨t',rfl⟩:=ry;cases x with
  | non=>cases rx;exact SeqAt.EqAt.int_none a t'
  | bl b=>cases rx;exact SeqAt.EqAt.int_bool a t' b
  | int b=>obtain ⟨t,rfl⟩:=rx;exact SeqAt.EqAt.int_int a t' b t
  | str b=>obtain ⟨t,rfl⟩:=rx;exact SeqAt.EqAt.int_str a t' b t
  | _=>exact absurd (show false=true from fx) Bool.false_ne_true
 | str a =>
  obtain ⟨t',rfl⟩:=ry;cases x with
  | non=>cases rx;exact SeqAt.EqAt.str_none a t'
  | bl b=>cases rx;exact SeqAt.EqAt.str_bool a t' b
  | int b=>obtain ⟨t,rfl⟩:=rx;exact SeqAt.EqAt.str_int a t' b t
  | str b=>obtain ⟨t,rfl⟩:=rx;exact SeqAt.EqAt.str_str a t' b t
  | _=>exact absurd (show false=true from fx) Bool.false_ne_true
 | _=>exact absurd (show false=true from fy) Bool.false_ne_true
theorem QG:GP X (.type "list") (fun xs H Q=>∃ p ys,xs=[.ref p]/\(HC X.K H p ys\/IK X.K H p ys)/\∀ l,H l=none->Q (.ref l) (upd H l (.lst ys))):=by
  intro pins s σ H xs us Q I r h;obtain ⟨p,ys,rfl,hq,q⟩:=h;obtain ⟨u,rfl,rx⟩:=vals1 r;cases rx;have fin:∀ (its:List Value),Am ys its->ys.length<=sizeLine->∀ (h':Heap) (c':Nat),(∀ b o',s.heap.get? b=some o'->h'.get? b=some o') ->
      h'.get? s.heap.objs.size=some { cls:=.type "list", dict:=none,data:=.seq its.toArray c',slots:=#[] }->EP X pins σ Q (.ref s.heap.objs.size) { s with heap:=h' }:=fun its r' hz h' c' kp e =>
    ⟨.ref s.heap.objs.size,_,I.laid (t':=s.toks) kp (Nat.le_refl _) (show CZ X.prog X.w _ h' _ (.lst ys) from ⟨hz,its,c',r',e⟩),rfl,q _ (I.hok.fresh (Nat.le_refl _))⟩
  rcases hq with hq | hq
  · obtain ⟨its,r',pl,hz⟩:=I.list hq;have hlen:=r'.length;obtain ⟨o,ho,hc,n,hd⟩:=pl.isList;exact call_list_seq p (.inl rfl) ho hc hd (fun h' c' kp e=>fin its r' hz h' c' kp e) (by simp only [List.size_toArray]<;>omega)
  · obtain ⟨its,r',pl,hz⟩:=I.tuple hq;have hlen:=r'.length;obtain ⟨o,ho,hc,n,hd⟩:=pl;exact call_list_seq p (.inr rfl) ho hc hd (fun h' c' kp e=>fin its r' hz h' c' kp e) (by simp only [List.size_toArray]<;>omega)
theorem NX:GP X (.type "tuple") (fun xs H Q=>∃ p ys,xs=[.ref p]/\((HC X.K H p ys/\∀ l,H l=none->Q (.ref l) (upd H l (.tup ys)))\/(IK X.K H p ys/\Q (.ref p) H))):=by
 intro pins s σ H xs us Q I r h;obtain ⟨p,ys,rfl,h⟩:=h;obtain ⟨u,rfl,rx⟩:=vals1 r;cases rx;rcases h with ⟨hq,q⟩ | ⟨hq,q⟩
 ·obtain ⟨its,r',pl,hz⟩:=I.list hq;have hlen:=r'.length;refine call_tuple_list pl.isList (fun h' kp=>?_) (by simp only [List.size_toArray]<;>omega);have I1:Inv X pins σ H { s with heap:=h' }:=I.kept (t':=s.toks) kp
  have I2:Inv X pins σ (upd H h'.objs.size (.tup ys)) { s with heap:=h'.push { cls:=.type "tuple", data:=.seq its.toArray } }:=
   I1.laid (t':=s.toks) (fun b o e=>Heap.get?_push_of_some _ e) (Nat.le_refl _) (show CZ X.prog X.w _ _ _ (.tup ys) from ⟨hz,its,r',Kr.new _ _⟩)
  exact ⟨.ref h'.objs.size,_,I2,rfl,q _ (I1.hok.fresh (Nat.le_refl _))⟩
 ·obtain ⟨its,r',pl,hz⟩:=I.tuple hq;exact call_tuple_same pl ⟨.ref p,H,I,rfl,q⟩
def tyV (K:W.Frag) (T:String) (x:V) (H:Hp):Prop:=match x with
  | .str _=>T = "str"
  | .int _=>T = "int"
  | .ref p=>(T = "list" /\ ∃ xs,HC K H p xs)\/(T = "tuple" /\ ∃ o,K.lookup p=some o/\o.cls=.type "tuple" /\ o.dict=none) \/
      (T = "dict" /\ ((∃ kvs,H p=some (.dK kvs))\/∃ kvs,H p=some (.dT kvs)))\/(T = "set" /\ ∃ S n,H p=some (.set S n))
  | _=>False
theorem Wo {pins:List (Addr×Obj)} {σ:St} {H:Hp} {s:Shared} {T:String} {x:V} {v:Value} (I:Inv X pins σ H s) (r:RelV x v) (ty:tyV X.K T x H) :
    s.TypeIs v T/\∀ a,v=.ref a->∃ ob,s.heap.get? a=some ob/\ob.dict=none:=by
  cases x with
  | str z =>
    obtain ⟨t,rfl⟩:=r
    cases (show T = "str" from ty)
    exact ⟨typeIs_str s z t,fun _ e=>nomatch e⟩
  | int i =>
    obtain ⟨t,rfl⟩:=r
    cases (show T = "int" from ty)
    exact ⟨typeIs_int s i t,fun _ e=>nomatch e⟩
  | ref p =>
    cases r;rcases ty with ⟨rfl,xs,hq⟩ | ⟨rfl,o,hk,hc,hd⟩ | ⟨rfl,hk⟩ | ⟨rfl,S,n,hk⟩
    · obtain ⟨its,_,pl,_⟩:=I.list hq;refine ⟨pl.isList.typeIs,fun a e=>?_⟩;cases e;obtain ⟨o,n,e,c,hd,_⟩:=pl;exact ⟨o,e,hd⟩
    · refine ⟨⟨o,I.kIn p o hk,hc⟩,fun a e=>?_⟩;cases e;exact ⟨o,I.kIn _ o hk,hd⟩
    · have z:∃ o,s.heap.get? p=some o/\o.ExactDict:=by
        rcases hk with ⟨kvs,hk⟩ | ⟨kvs,hk⟩
        · obtain ⟨_,_,_,_,o,_,_,e,ex,_⟩:=I.hok p _ hk;exact ⟨o,e,ex⟩
        · obtain ⟨_,_,_,_,o,_,_,e,ex,_⟩:=I.hok p _ hk;exact ⟨o,e,ex⟩
      obtain ⟨o,e,ex⟩:=z;refine ⟨⟨o,e,ex.1⟩,fun a e2=>?_⟩;cases e2;exact ⟨o,e,ex.2.1⟩
    · obtain ⟨o,_,_,_,e,ex,_⟩:=I.hok p _ hk;refine ⟨⟨o,e,ex.1⟩,fun a e2=>?_⟩;cases e2;exact ⟨o,e,ex.2.1⟩
  | _=>exact False.elim ty
abbrev ko (K:W.Frag) (T:String) (r:V->List V->Hp->VK->Prop) (to:TE):TE:=fun σ H Q=>to σ H fun x H1=>tyV K T x H1/\r x [] H1 Q
abbrev nF (K:W.Frag) (T:String) (r:V->List V->Hp->VK->Prop) (to:TE) (t:TA):TE:=fun σ H Q=>to σ H fun x H1=>tyV K T x H1/\t σ H1 fun xs H2=>r x xs H2 Q
variable {o e:Expr} {es:List Expr} {to:TE} {t:TA} {name:Str} {apos cpos:Pos} {T id:String} {r:V->List V->Hp->VK->Prop}
theorem iQ (pa:PlainAttrs T) (slot:Slot T name id) (hty:typeOf (.builtin id)=pure (.type "method_descriptor")) (hm:ah X id r) (ho:PE X o to)
    (hbase:attributeBase o name X.env (eval o X.env)=eval o X.env:=by rfl) (hline:(apos.endLine == cpos.line)=true:=by rfl):PE X (.Call (.Attribute o name apos) [] [] cpos) (ko X.K T r to):=by
  intro pins s σ H Q I h;refine wpAny_Call_method0_late hbase hline (CQ (ho pins s σ H _ I h) fun v s1 ⟨x,H1,I1,r1,ty,q1⟩=>?_);obtain ⟨h1,h2⟩:=Wo I1 r1 ty;exact ⟨T,id,pa,slot,hty,h1,h2,Calls.callWith_builtin rfl (PySem.evalArgs_none (hm pins s1 σ H1 x [] v [] Q I1 r1 .nil q1))⟩
theorem lV (pa:PlainAttrs T) (slot:Slot T name id) (hty:typeOf (.builtin id)=pure (.type "method_descriptor")) (hm:ah X id r) (ho:PE X o to) (ha:PA X (e::es) t)
    (hbase:attributeBase o name X.env (eval o X.env)=eval o X.env:=by rfl)
    (hfew:((backTo cpos (starEach (e::es) X.env)).all (fun x=>!x.1) && (backToKw cpos (keywordEach [] X.env)).all (fun x=>x.1.isSome)
      && decide ((e::es).length+([]:List Keyword).length+(if ([]:List Keyword).isEmpty then 0 else 1) < 30))=true:=by rfl)
    (hline:(apos.endLine == cpos.line)=true:=by rfl) (hs:starEach (e::es) X.env=(false,eval e X.env)::starEach es X.env:=by rfl) (hplain:(backTo cpos (starEach es X.env)).any (·.1)=false:=by rfl) :
    PE X (.Call (.Attribute o name apos) (e::es) [] cpos) (nF X.K T r to t):=by
  intro pins s σ H Q I h;refine wpAny_Call_method_late hbase hfew hline rfl (CQ (ho pins s σ H _ I h) fun v s1 ⟨x,H1,I1,r1,ty,q1⟩=>?_);obtain ⟨h1,h2⟩:=Wo I1 r1 ty;refine ⟨T,id,pa,slot,hty,h1,h2,?_⟩;have hA:=ha cpos pins s1 σ H1 _ I1 q1;rw [hs] at hA ⊢;refine Calls.callWith_builtin (by show (false || (backTo cpos (starEach es X.env)).any (·.1))=false;rw [hplain]<;>rfl) (Calls.evalArgs_plain ?_);exact CQ hA fun us s2 ⟨vs,H2,I2,r2,q2⟩=>hm pins s2 σ H2 x vs v us Q I2 r1 r2 q2
end
def kS (X:Cx) (id:String) (r:V->List V->Hp->VK->Prop):Prop:=
 ∀ (pins:List (Addr×Obj)) (s:Shared) (σ:St) (H:Hp) (x:V) (xs:List V) (v:Value) (us:List Value) (Q:VK),Inv X pins σ H s->RelV x v->Am xs us->r x xs H Q ->
  wpAny (model X.prog X.w) X.A (call (.builtin id) (v::us)) (EP X pins σ Q) X.xe s
theorem Am.one:∀ {x:V} {us:List Value},Am [x] us->∃ u,us=[u]/\RelV x u
 := by
 intro x us h;cases h with | cons r t=>cases t;exact ⟨_,rfl,r⟩
theorem Am.two:∀ {x y:V} {us:List Value},Am [x,y] us->∃ u v,us=[u,v]/\RelV x u/\RelV y v
 := by
 intro x y us h;cases h with | cons r t=>cases t with | cons q t=>cases t;exact ⟨_,_,rfl,r,q⟩
theorem Am.zero:∀ {us:List Value},Am [] us->us=[]
 | _,.nil=>rfl
theorem Am.eraseIdx:∀ {xs:List V} {us:List Value} (i:Nat),Am xs us->Am (xs.eraseIdx i) (us.eraseIdx i)
 | _,_,_,.nil=>.nil
 | _,_,0,.cons _ t=>t
 | _,_,i+1,.cons r t=>.cons r (Am.eraseIdx i t)
theorem Am.rep {xs:List V} {us:List Value} (h:Am xs us):∀ k:Nat,Am (List.replicate k xs).flatten (List.replicate k us).flatten
 | 0=>.nil
 | k+1=>by
  rw [List.replicate_succ,List.replicate_succ,List.flatten_cons,List.flatten_cons];exact Am.append h (Am.rep h k)
theorem OB {α:Type}:∀ (l:List α) (i:Nat),(l.eraseIdx i).length<=l.length
 | [],_=>Nat.le_refl _
 | _::_,0=>Nat.le_succ _
 | _::r,i+1=>Nat.succ_le_succ (OB r i)
theorem foldl_rep (its:List Value):∀ (k:Nat) (acc:List Value),
    List.foldl (fun x1 x2=>x1++x2) acc.toArray (List.replicate k its.toArray)=(acc++(List.replicate k its).flatten).toArray
  | 0,acc=>by simp
  | k+1,acc=>by
    have e:acc.toArray++its.toArray=(acc++its).toArray:=by simp
    have e2:(acc++its)++(List.replicate k its).flatten=acc++(List.replicate (k+1) its).flatten:=by
      rw [List.replicate_succ,List.flatten_cons,List.append_assoc]
    rw [<- e2,<- foldl_rep its k (acc++its),<- e,List.replicate_succ,List.foldl_cons]
section
variable {X:Cx} {pins:List (Addr×Obj)} {σ:St} {H:Hp} {s:Shared} {l b:Addr} {xs ys zs:List V}
theorem Inv.lset {its its':List Value} {n:Nat} {f:Array Value->Array Value} {t':Nat} (I:Inv X pins σ H s) (hH:H l=some (.lst xs))
    (e:s.heap.get? l=some { cls:=.type "list", data:=.seq its.toArray n }) (hf:f its.toArray=its'.toArray) (hv:Am ys its') (hz:ys.length<=sizeLine) :
    Inv X pins σ (upd H l (.lst ys)) { s with heap:=s.heap.update l (Obj.mapSeq f),toks:=t' }:=by
  have q:=PySem.IsL.update e f;rw [hf] at q;refine I.write (x:=l) (e:=l) (by rw [hH];exact trivial) (.inl rfl) (fun b' u hb hu=>(Heap.get?_update_other s.heap (Obj.mapSeq f) (Ne.symm hb)).trans hu) ⟨_,q⟩ ?_;exact ⟨hz,its',_,hv,q⟩
theorem Inv.lnew {its:List Value} {t':Nat} (I:Inv X pins σ H s) (hv:Am ys its) (hz:ys.length<=sizeLine) :
    Inv X pins σ (upd H s.heap.objs.size (.lst ys)) { s with heap:=s.heap.push { cls:=.type "list", data:=.seq its.toArray },toks:=t' }:=
  I.laid (fun _ _ q=>Heap.get?_push_of_some _ q) (Nat.le_refl _) ⟨hz,its,0,hv,Heap.get?_push_size _ rfl⟩
theorem Inv.fresh (I:Inv X pins σ H s):H s.heap.objs.size=none:=I.hok.fresh (Nat.le_refl _)
theorem Inv.lstM (I:Inv X pins σ H s) (hH:H l=some (.lst xs)):xs.length<=sizeLine/\∃ (its:List Value) (n:Nat),Am xs its/\xs.length=its.length/\s.heap.get? l=some { cls:=.type "list", data:=.seq its.toArray n }:=by
 obtain ⟨z,its,n,r,e⟩:=I.hok l _ hH;exact ⟨z,its,n,r,r.length,e⟩
theorem RD {n:Nat} (h:n<=sizeLine):Builtin.List.listTooLong n=false:=by
 unfold Builtin.List.listTooLong;exact decide_eq_false (by omega)
end
section
variable {X:Cx}
def Tt:V->List V->Hp->VK->Prop:=fun x vs H Q=>∃ l xs y,x=.ref l/\vs=[y]/\H l=some (.lst xs)/\xs.length < sizeLine/\Q .non (upd H l (.lst (xs++[y])))
theorem Ct:kS X "list.append" Tt:=by
 intro pins s σ H x vs v us Q I rx rv h;obtain ⟨l,xs,y,rfl,rfl,hH,hz,q⟩:=h;cases rx;obtain ⟨u,rfl,ru⟩:=rv.one;obtain ⟨z,its,n,r,hl,e⟩:=I.lstM hH;refine call_meets F.slot_list_append ⟨_,e,rfl⟩ F.entry_list_append (F.args_list_append_2 _ _) (PySem.list_append l its.toArray n u (by rw [List.size_toArray];omega)) ⟨e,?_⟩;refine ⟨.non,_,I.lset (its':=its++[u]) hH e (by simp) (r.append (.cons ru .nil)) ?_,rfl,q⟩;rw [List.length_append,List.length_singleton];omega
def Ts:V->List V->Hp->VK->Prop:=fun x vs H Q=>∃ l b xs zs,x=.ref l/\vs=[.ref b]/\H l=some (.lst xs)/\H b=some (.lst zs)/\xs.length+zs.length<=sizeLine/\Q .non (upd H l (.lst (xs++zs)))
theorem Nv:kS X "list.extend" Ts:=by
 intro pins s σ H x vs v us Q I rx rv h;obtain ⟨l,b,xs,zs,rfl,rfl,hH,hB,hz,q⟩:=h;cases rx;obtain ⟨u,rfl,ru⟩:=rv.one;cases ru;obtain ⟨z,its,n,r,hl,e⟩:=I.lstM hH;obtain ⟨z2,its2,n2,r2,hl2,e2⟩:=I.lstM hB;have hsz:its.toArray.size+its2.toArray.size<=sizeLine:=by rw [List.size_toArray,List.size_toArray];omega
 have hlong:¬ (!its.toArray.isEmpty && Builtin.List.listTooLong (its.toArray.size+its2.toArray.size))=true:=by
  rw [RD hsz,Bool.and_false];exact Bool.false_ne_true
 refine call_meets F.slot_list_extend ⟨_,e,rfl⟩ F.entry_list_extend (F.args_list_extend_2 _ _)
  (AutoSeq1.list_extend_list_list_0 l its.toArray n b its2.toArray n2 hlong (by rw [List.size_toArray];omega) (by omega)) ⟨e,e2,?_⟩
 refine ⟨.non,_,I.lset (its':=its++its2) hH e (by simp) (r.append r2) ?_,rfl,q⟩;rw [List.length_append];omega
def XY:V->List V->Hp->VK->Prop:=fun x vs H Q=>∃ l xs i k y,x=.ref l/\vs=[.int i]/\H l=some (.lst xs)/\-(2 ^ 63)<=i/\i < 2 ^ 63/\seqIndex? i xs.length=some k/\xs[k]?=some y/\Q y (upd H l (.lst (xs.eraseIdx k)))
theorem YM:kS X "list.pop" XY:=by
 intro pins s σ H x vs v us Q I rx rv h;obtain ⟨l,xs,i,k,y,rfl,rfl,hH,h1,h2,hk,hy,q⟩:=h;cases rx;obtain ⟨u,rfl,ru⟩:=rv.one;obtain ⟨t,rfl⟩:=ru;obtain ⟨z,its,n,r,hl,e⟩:=I.lstM hH;obtain ⟨w,hw,rw'⟩:=r.get hy;refine call_meets F.slot_list_pop ⟨_,e,rfl⟩ F.entry_list_pop (F.args_list_pop_2 _ _)
  (MeetsSeq.list_pop_at l its.toArray n i t k w (fitsIndex_both h1 h2) (by rw [List.size_toArray,<- hl];exact hk) (by rw [<- Array.getElem?_toList];exact hw) (by rw [List.size_toArray];omega)) ⟨e,?_⟩
 refine ⟨y,_,I.lset (its':=its.eraseIdx k) hH e ?_ (r.eraseIdx k) ?_,rw',q⟩
 ·show its.toArray.eraseIdxIfInBounds k=(its.eraseIdx k).toArray;rw [List.eraseIdxIfInBounds_toArray]
 ·have:=OB xs k;omega
def lI:R2:=fun x y H Q=>∃ l b xs zs,x=.ref l/\y=.ref b/\H l=some (.lst xs)/\H b=some (.lst zs)/\xs.length+zs.length<=sizeLine/\∀ p,H p=none->Q (.ref p) (upd H p (.lst (xs++zs)))
theorem il:FW X (binaryOp .Add) lI:=by
 intro pins s σ H x y v u Q I rx ry h;obtain ⟨l,b,xs,zs,rfl,rfl,hH,hB,hz,q⟩:=h;cases rx;cases ry;obtain ⟨z,its,n,r,hl,e⟩:=I.lstM hH;obtain ⟨z2,its2,n2,r2,hl2,e2⟩:=I.lstM hB;refine PySem.P.add_list e e2 ?_ (by rw [List.size_toArray,List.size_toArray];omega);have ea:its.toArray++its2.toArray=(its++its2).toArray:=by simp
 rw [ea];exact ⟨.ref _,_,I.lnew (t':=s.toks) (r.append r2) (by rw [List.length_append];omega),rfl,q _ I.fresh⟩
def gv:R2:=fun x y H Q=>∃ l k xs,x=.ref l/\y=.int k/\H l=some (.lst xs)/\-(2 ^ 63)<=k/\k < 2 ^ 63/\xs.length * k.toNat<=sizeLine /\
 ∀ p,H p=none->Q (.ref p) (upd H p (.lst (List.replicate k.toNat xs).flatten))
theorem len_rep {α:Type} (xs:List α) (k:Nat):(List.replicate k xs).flatten.length=k * xs.length:=by
 induction k with
 | zero=>simp
 | succ k ih=>rw [List.replicate_succ,List.flatten_cons,List.length_append,ih,Nat.succ_mul,Nat.add_comm]
theorem ib:FW X (binaryOp .Mult) gv:=by
 intro pins s σ H x y v u Q I rx ry h;obtain ⟨l,k,xs,rfl,rfl,hH,h1,h2,hz,q⟩:=h;cases rx;obtain ⟨t,rfl⟩:=ry;obtain ⟨z,its,n,r,hl,e⟩:=I.lstM hH;have hlen:its.toArray.size * k.toNat<=sizeLine:=by rw [List.size_toArray,<- hl];exact hz
 have hcap:¬ its.toArray.size * k.toNat > (2 ^ 63 - 1) / 8:=by
  have:(sizeLine:Nat)<=(2 ^ 63 - 1) / 8:=by decide
  omega
 have hfit:¬ (!Builtin.List.listFitsIndex k)=true:=by
  rw [fitsIndex_both h1 h2];exact Bool.false_ne_true
 have hlong:¬ Builtin.List.listTooLong (its.toArray.size * k.toNat)=true:=by
  rw [RD hlen];exact Bool.false_ne_true
 have hnew:List.foldl (fun x1 x2=>x1++x2) #[] (List.replicate (if its.toArray.isEmpty=true then 0 else k.toNat) its.toArray)=(List.replicate k.toNat its).flatten.toArray:=by
  have f0:∀ m:Nat,List.foldl (fun x1 x2=>x1++x2) #[] (List.replicate m its.toArray)=(List.replicate m its).flatten.toArray:=fun m=>by
   have:=foldl_rep its m [];rw [List.nil_append] at this;exact this
  rw [f0];cases its with
  | nil=>simp
  | cons a r'=>rw [if_neg (by simp)]
 refine wpAny_binaryOp_repeat_ref (T := "list") (U := "int") (by decide) ⟨_,e,rfl⟩ (fun s'=>typeIs_int s' k t) noFill_list_mul F.fills_int_mul F.slot_int_rmul repeat_list F.slot_int_index.lookup
  (call_meets F.slot_int_rmul (typeIs_int s k t) F.entry_int_rmul (F.args_int_rmul_2 _ _) (int___rmul___int_list k t l its.toArray n)
   ⟨e,rfl,⟨_,e,rfl⟩,call_meets F.slot_list_mul ⟨_,e,rfl⟩ F.entry_list_mul (F.args_list_mul_2 _ _) (AutoListH.list___mul___list_int_3 l its.toArray n k t hfit hcap hlong) ⟨e,?_⟩⟩)
 rw [hnew];exact ⟨.ref _,_,I.lnew (t':=s.toks) (r.rep k.toNat) (by rw [len_rep,Nat.mul_comm];exact hz),rfl,q _ I.fresh⟩
end
section
end
section
end
end L2
namespace Att
open PySem PySem.W PySem.Calls PyProof.Rows
theorem Kj {P:Params} {h:Heap}:∀ (ns:List Int) (vs:List Value),WellAll P h vs (ns.map WData.int)->IntsAre vs ns:=by
 intro ns
 induction ns with
 | nil =>
  intro vs w;rw [List.map_nil] at w;cases w;exact .nil
 | cons n ns ih =>
  intro vs w;rw [List.map_cons] at w;cases w with
  | cons a b =>
   cases a;exact .cons _ _ (ih _ b)
theorem VS {l:OpenLaw} {n:Nat} (hn:l.most=some n) {P:Params} {h:Heap} {args:List WData} {vals:List Value}
    (hpre:l.row.toRowW.claim.pre args=true) (hwl:WellAll P h vals args) :
    ∃ a vs ns,vals=[Value.ref a]/\args=[WData.list (ns.map WData.int)]/\h.get? a=some { cls:=.type "list", data:=.seq vs.toArray }/\IntsAre vs ns/\ns.length<=n:=by
  have hsh:WShape.hasAll [] args [.list .int]=true:=(pre_splitW hpre).1;have hc:l.pre.holds [] { args:=args }=true:=(pre_splitW hpre).2;obtain ⟨d,r,rfl,h1,h2⟩:=hasAllW_cons hsh;obtain rfl:=hasAllW_nil h2;obtain ⟨xs,rfl,h3⟩:=hasW_list h1;obtain ⟨ns,rfl⟩:=items_int h3;have hlen:ns.length<=n:=by
    unfold OpenLaw.pre at hc;have h4:(WTm.not (.lt (.lit (.int (n:Int))) (.len (.arg 0)))).holds [] { args:=[.list (ns.map .int)] }=true:=by
      have h4:=(holds_andW hc).1;rw [hn] at h4;exact h4
    have h5:=condW_of h4 (w_not (w_lt w_lit (w_len_list (w_arg rfl))));rw [List.length_map] at h5;refine Nat.le_of_not_lt fun q=>?_
    have q':(n:Int) < ((ns.length:Nat):Int):=by omega
    first
      | (rw [decide_eq_true q'] at h5;exact absurd h5 (by decide))
      | (simp at h5;omega)
  cases hwl with
  | cons w1 w2 =>
    cases w2;cases w1 with
    | list ho hall=>exact ⟨_,_,ns,rfl,rfl,ho,Kj ns _ hall,hlen⟩
theorem Va (l:OpenLaw) (args:List WData):l.row.toRowW.claim.post args (.bool true) args=true:=
 postW_of (r:=l.row.toRowW) (X:=(true == true))
  (show WShape.has [] (.bool true) .bool=true by first | rfl | decide | simp [WShape.has,WShape.arms,WShape.armsAll])
  (show (WTm.eq .res (.lit (.bool true))).value [] { args:=args,res:=some (.bool true),after:=args }=some (.bool (true == true)) from w_eq_bool (w_res rfl) w_lit) rfl
theorem attach_call {l:OpenLaw} {n:Nat} {q:Program} {loose:List Str} {XP:(Str->Option Value)->Heap->Prop} {YP:World->Heap->Prop} {d:DefRec}
    (hn:l.most=some n) (hdf:d.params.defaults=[])
    (call:∀ (w:World) (s₀ s₁:Shared) (mg mb:Str->Option Value) (fa:Addr) (o:Obj) (pm cd doc:Value) (a:Addr) (vs:List Value) (ns:List Int),
      Ground q loose [] XP w s₀ mg mb s₁.heap->YP w s₁.heap ->
      s₁.heap.get? fa=some o->o.data=.func (docDef d.name d.params d.body d.scope pm cd doc)->s₁.heap.CodeRec cd d.name->mg d.name=some (.ref fa) ->
      s₁.heap.get? a=some { cls:=.type "list", data:=.seq vs.toArray }->IntsAre vs ns->ns.length<=n->s₁.gens=#[] ->
      codeAny (model l.prog w) callerA (.call (.ref fa) ⟨[.ref a],[]⟩) (fun r s'=>r=.ok (.ret (.bool true))/\OldK s₁.heap s'.heap/\s'.os=s₁.os/\AllBare s'.gens) s₁) :
    WalkO q loose XP YP l.row.toRowW d [] (fun f vs=>PySem.call f vs):=by
  intro w s₀ s₁ mg mb G Y fa o pm cd doc dV kV ho hd hcd hD hmg hg args vals as hpre hlay hrd hwl hlo;obtain rfl:dV=.none:=Dflts.none hD hdf;obtain rfl:kV=.none:=Dflts.noKw hD;obtain ⟨a,vs,ns,rfl,rfl,hobj,hints,hlen⟩:=VS hn hpre hwl;refine enter_call (codeAny_mono (call w s₀ s₁ mg mb fa o pm cd doc a vs ns G Y ho (fd_plain hd) hcd hmg hobj hints hlen hg) fun r s' hq=>?_);obtain ⟨rfl,h2,h3,h4⟩:=hq;exact ⟨.inl ⟨.bool true,.bool true,[],rfl,fun _=>rfl,.bool true,Va l _,fun _=>⟨List.Pairwise.nil,fun _ hm=>(nomatch hm)⟩⟩,h2,h3,h4⟩
section
end
end Att
namespace L2
open PySem PySem.Spec PyProof.Rows
theorem Ni:∀ {vs:List Value} {ns:List Int},IntsAre vs ns->Am (ns.map V.int) vs
 | _,_,.nil=>.nil
 | _,_,.cons n t h=>.cons ⟨t,rfl⟩ (Ni h)
def dJ (H:Hp):Prop:=∀ b,H b=none\/∃ o xs,H b=some (.frz o (.lst xs))
theorem Ys {P:Program} {w:World} {K:W.Frag} {mg mb:Str->Option Value} {CX:ao} {k:Nat} {fa a:Addr} {fd:FuncData} {x:Str} {sp:Sp} {s₁:Shared} {vs:List Value} {ns:List Int}
    (KX:K.In s₁.heap) (hns:s₁.heap.Ns mainGlobals mg) (hb:s₁.heap.Ns builtinsNs mb) (hbb:∀ x:Str,x ≠ "__name__" -> mb x=bootBuiltins x) (hlim:s₁.heap.NoLimit) (hg:s₁.gens=#[])
    (ha:s₁.heap.get? a=some { cls:=.type "list", data:=.seq vs.toArray }) (hi:IntsAre vs ns) (hl:ns.length<=sizeLine) (hr:Room k callerA)
    (F:∀ base:Heap,K.In base->base.Ns mainGlobals mg->FnOk P w K mg base CX k fa fd [x] sp) (hbind:∀ (s:Shared) (u:Value),BindsTo s fd ⟨[u],[]⟩ [(x,u)])
    (hsp:∀ H:Hp,dJ H->HC K H a (ns.map V.int)->sp [.ref a] H (fun v _=>v=.bl true) fun _ _ _=>False)
    (hCX:∀ H e s',CX [] H s₁ (fun _ _ _=>False) e s'->False) :
    codeAny (model P w) callerA (.call (.ref fa) ⟨[.ref a],[]⟩) (fun r s'=>r=.ok (.ret (.bool true))/\OldK s₁.heap s'.heap/\s'.os=s₁.os/\AllBare s'.gens) s₁:=by
  have rv:=Ni hi;have lenV:=hi.length
  -- from an abstract heap in which nothing but the script may be tracked
  have core:∀ H:Hp,dJ H->HC K H a (ns.map V.int)->Ks P w H s₁.heap->(∀ b,H b≠none->b=a)->(H a≠none->K.lookup a=none) ->
      codeAny (model P w) callerA (.call (.ref fa) ⟨[.ref a],[]⟩) (fun r s'=>r=.ok (.ret (.bool true))/\OldK s₁.heap s'.heap/\s'.os=s₁.os/\AllBare s'.gens) s₁:=by
    intro H hO hS hok hA hK;have base_of:∀ {b:Addr} {o:Obj},s₁.heap.get? b=some o->H b=none->(Pq s₁.heap H).get? b=some o:=fun e n=>ZW e n
    have noA:∀ {b:Addr} {o:Obj} {es:Array DictEntry} {ep:Nat},s₁.heap.get? b=some o->o.data=.dict es ep->H b=none:=fun {b o es ep} e d=>by
      cases q:H b with
      | none=>rfl
      | some u =>
        have e':b=a:=hA b (by rw [q];simp);subst e';rw [ha] at e;cases e;have d':Data.seq vs.toArray _=Data.dict es ep:=d;cases d'
    have nsK:∀ {b:Addr} {m:Str->Option Value},s₁.heap.Ns b m->(Pq s₁.heap H).Ns b m:=fun {b m} ⟨o,es,ep,e,d,r⟩=>⟨o,es,ep,base_of e (noA e d),d,r⟩
    have hKb:K.In (Pq s₁.heap H):=fun b o e=>base_of (KX b o e) (by
      cases q:H b with
      | none=>rfl
      | some u =>
        have e':b=a:=hA b (by rw [q];simp);subst e';rw [hK (by rw [q];simp)] at e;cases e)
    have hM:Mod K mg (Pq s₁.heap H):=⟨hKb,nsK hns,⟨mb,nsK hb,hbb⟩,let ⟨mc,h1,h2⟩:=hlim;⟨mc,nsK h1,h2⟩⟩;have e0:Env0 P w K mg (Pq s₁.heap H) callerA [] s₁ H:=⟨rfl,hM,fun b o e=>cJ e,Nat.le_of_eq (Vz _ _),trivial,fun b hb=>absurd (show b∈([]:List Addr) from hb) (by simp),hok,.of_eq hg⟩;refine codeAny_mono ((F _ hKb (nsK hns)).run callerA [] s₁ H ⟨[.ref a],[]⟩ [.ref a] [.ref a] _ _ hr e0 (hbind s₁ (.ref a)) (.cons rfl .nil) (hsp H hO hS)) fun r s' h=>?_
    cases r with
    | error e=>exact (hCX H e s' h).elim
    | ok fl =>
      cases fl with
      | next=>exact False.elim h
      | brk=>exact False.elim h
      | cont=>exact False.elim h
      | ret u =>
        obtain ⟨v,H',os,bare,un,hok',r',q⟩:=h;have q':v=.bl true:=q;subst q';obtain rfl:u=Value.bool true:=r';refine ⟨rfl,OldK.of_keep fun b o e=>?_,os,bare⟩;cases q:H b with
        | none=>exact un.keep b o e q (by intro z;exact absurd (show b∈([]:List Addr) from z) (by simp)) (by simp)
        | some u =>
          rcases hO b with z | ⟨ob,xs,z⟩
          · rw [q] at z;cases z
          · have z2:=un.frzs b ob _ z;obtain ⟨e1,_⟩:=hok b _ z;obtain ⟨e2,_⟩:=hok' b _ z2;rw [e] at e1;cases e1;exact e2
  cases hk:K.lookup a with
  | some o =>
    -- the script is one of the module's own objects
    have e:=KX a o hk;rw [ha] at e;cases e;refine core (fun _=>none) (fun _=>.inl rfl) (.inr ⟨_,vs.toArray,_,hk,rfl,rfl,rfl,by rw [List.size_toArray,lenV];exact hl,by simpa using rv⟩) (fun b u z=>by have z':(none:Option HO)=some u:=z;cases z') (fun b z=>absurd rfl z) fun z=>absurd rfl z
  | none =>
    refine core (fun b=>if b=a then some (.frz { cls:=.type "list", data:=.seq vs.toArray } (.lst (ns.map V.int))) else none) (fun b=>?_) (.inl (.inr ⟨{ cls:=.type "list", data:=.seq vs.toArray },if_pos rfl⟩)) (fun b u z=>?_) (fun b z=>?_) fun _=>hk
    · by_cases hb:b=a
      · exact .inr ⟨_,_,if_pos hb⟩
      · exact .inl (if_neg hb)
    · by_cases hb:b=a
      · have z':=(if_pos hb).symm.trans z;cases z';subst hb;exact ⟨ha,by rw [List.length_map];exact hl,vs,_,rv,ha⟩
      · have z':=(if_neg hb).symm.trans z;cases z'
    · by_cases hb:b=a
      · exact hb
      · exact absurd (if_neg hb) z
theorem walk_of {l:W.OpenLaw} {n k:Nat} {q:Program} {loose:List Str} {XP:(Str->Option Value)->Heap->Prop} {YP:World->Heap->Prop} {d:DefRec} {K:Params->W.Frag} {CX:World->ao} {sp:World->Sp} {x:Str}
    (hn:l.most=some n) (hn2:n<=sizeLine) (hdf:d.params.defaults=[]) (hr:Room k callerA)
    (hY:∀ (w:World) (h:Heap),YP w h->(K w.params).In h)
    (F:∀ (w:World) (mg:Str->Option Value) (fa:Addr) (h:Heap),(K w.params).In h->h.Ns mainGlobals mg->mg d.name=some (.ref fa) ->
      ∃ fd:FuncData,(∀ (s:Shared) (u:Value),BindsTo s fd ⟨[u],[]⟩ [(x,u)]) /\
        ∀ base:Heap,(K w.params).In base->base.Ns mainGlobals mg->FnOk l.prog w (K w.params) mg base (CX w) k fa fd [x] (sp w))
    (hsp:∀ (w:World) (H:Hp) (a:Addr) (ns:List Int),ns.length<=n->dJ H->HC (K w.params) H a (ns.map V.int)->sp w [.ref a] H (fun v _=>v=.bl true) fun _ _ _=>False)
    (hCX:∀ (w:World) (H:Hp) (s:Shared) (e:Value) (s':Shared),CX w [] H s (fun _ _ _=>False) e s'->False) :
    W.WalkO q loose XP YP l.row.toRowW d [] (fun f vs=>PySem.call f vs):=by
  refine Att.attach_call hn hdf fun w s₀ s₁ mg mb fa o pm cd doc a vs ns G Y ho hd hcd hmg hobj hints hlen hg=>?_
  have KX:=hY w _ Y;obtain ⟨fd,hb,hF⟩:=F w mg fa _ KX G.T.g hmg;exact Ys KX G.T.g G.T.b G.T.builtins G.T.nolimit hg hobj hints (Nat.le_trans hlen hn2) hr hF hb (fun H hO hS=>hsp w H a ns hlen hO hS) fun H e s'=>hCX w H s₁ e s'
noncomputable def Ej (s:Stmt):Arguments:=match s with
 | .FunctionDef _ a _ _ _ _ _ _ _ _=>a
 | _=>{ posonlyargs:=[],args:=[],vararg:=none,kwonlyargs:=[],kw_defaults:=[],kwarg:=none,defaults:=[] }
noncomputable def Di (s:Stmt):List Stmt:=match s with
 | .FunctionDef _ _ b _ _ _ _ _ _ _=>b
 | _=>[]
noncomputable def AS (s:Stmt):Scope:=match s with
 | .FunctionDef _ _ _ _ _ _ sc _ _ _=>sc
 | _=>{ kind:=.function,names:=[],isGenerator:=false,isCoroutine:=false }
abbrev IJ:ao:=fun _ _ _ _ _ _=>False
abbrev E0:XK:=fun _ _ _=>False
theorem lX {X:Cx}:Tc IJ X E0:=fun _ _ _ _ _ _ _ h=>h.elim
structure Fun (K:W.Frag) (x qual:Str) (st:Stmt) (f:Addr) (fd:FuncData):Prop where
 ex:∃ (oc:Value) (od:Option Addr) (kV doc pm:Value) (an:Option Addr) (cdv ct:Value) (osl:Array (Option Value)),
  fd=W.fnOf x qual (Ej st) (Di st) (AS st) .none kV doc pm an cdv ct/\K.lookup f=some ⟨oc,od,.func fd,osl⟩/\W.codeIn K cdv qual=true
 kp:W.keepIn K (.ref f)=true
section
variable {P:Program} {w:World} {K:W.Frag} {mg:Str->Option Value} {base:Heap}
theorem Fun.ok {x qual:Str} {st:Stmt} {f:Addr} {fd:FuncData} {N ps:List Str} {k:Nat} {sp:Sp} (F:Fun K x qual st f fd) (S:FnScope N ps (AS st)) (len:∀ vs H Q E,sp vs H Q E->vs.length=ps.length)
    (hbody:∀ (cdv:Value) (A:Around) (outer:List Env) (s:Shared) (H:Hp) (vs:List V) (Q:VK) (E:XK),Room k (A.deeper (envOfC qual (AS st) s.heap.objs.size f cdv))->sp vs H Q E ->
      ∃ t,OX (TN IJ P w K mg base N qual (AS st) f cdv A outer s H E).nox (Di st) t/\t { nx:=fun _ H'=>Q .non H',rt:=Q } (start N vs) H):FnOk P w K mg base IJ (k+1) f fd ps sp:=by
  obtain ⟨oc,od,kV,doc,pm,an,cdv,ct,osl,rfl,lk,hcd⟩:=F.ex;refine mW lk hcd S len fun A outer s H vs Q E hr hsp=>?_
  obtain ⟨t,h,q⟩:=hbody cdv A outer s H vs Q E hr hsp;exact ⟨t,h.nox,q⟩
theorem Fun.binds {x qual:Str} {st:Stmt} {f:Addr} {fd:FuncData} {ps:List Str} (F:Fun K x qual st f fd)
    (h:∀ (kV doc pm:Value) (an:Option Addr) (cdv ct:Value) (us:List Value),us.length=ps.length->bindArgs (W.fnOf x qual (Ej st) (Di st) (AS st) .none kV doc pm an cdv ct) ⟨us,[]⟩=pure (ps.zip us)):Binds K fd ps []:=by
  obtain ⟨oc,od,kV,doc,pm,an,cdv,ct,osl,rfl,lk,hcd⟩:=F.ex;exact .all (h kV doc pm an cdv ct)
theorem jT {x qual:Str} {st:Stmt} {f:Addr} {oc:Value} {od an:Option Addr} {osl:Array (Option Value)} {kV doc pm cdv ct:Value} (l:K.lookup f=some ⟨oc,od,.func (W.fnOf x qual (Ej st) (Di st) (AS st) .none kV doc pm an cdv ct),osl⟩)
    (c:W.codeIn K cdv qual=true) (k:W.keepIn K (.ref f)=true):Fun K x qual st f (W.fnOf x qual (Ej st) (Di st) (AS st) .none kV doc pm an cdv ct):=⟨⟨oc,od,kV,doc,pm,an,cdv,ct,osl,rfl,l,c⟩,k⟩
end
section
variable {X:Cx}
theorem pv (i:Nat) {x:Str} {pos:Pos} (hN:X.N[i]?=some x:=by rfl) (hv:pP X.env.scope x:=by first | exact Or.inl rfl | exact Or.inr (Or.inl rfl) | exact Or.inr (Or.inr rfl)) (hd:(x == ("__debug__" : Str))=false:=by decide)
    (hcd:(x == ("__classdict__" : Str))=false:=by decide):PE X (.Name x pos) (NK i):=iJ hN hv hd hcd
end
def af (H H':Hp):Prop:=∀ b o,H b=some o->H' b=some o
noncomputable def BN (sc:Scope) (x:Str):Bool:=match sc.names.lookup x with | some .cell=>true | _=>false
def Cx.inner (X:Cx) (scope:Scope) (cl:List (Str×Addr)) (C:Addr) (s:Shared) (H:Hp) (fp:List Addr):Cx:=
 { X with s₀:=s,H₀:=H,env:=compEnvC scope cl C X.env,outer:=X.stack,ex:=fp,fn:=BN scope,xe:=fun _ _=>False }
theorem Bt {scope:Scope} {env:Env} {x:Str}:∀ {names:List (Str×NameKind)}, 
    ((names.map fun (n,k)=>if (k == NameKind.free && env.scope.kind == .function && env.kindOf n == some .cell) then (n,NameKind.cell) else (n,k)).lookup x=some .cell \/
     (names.map fun (n,k)=>if (k == NameKind.free && env.scope.kind == .function && env.kindOf n == some .cell) then (n,NameKind.cell) else (n,k)).lookup x=some .free) ->
    names.lookup x=some .cell\/names.lookup x=some .free
  | [],h=>by simp at h
  | (n,k)::r,h=>by
    have ih:=@Bt scope env x r;cases hx:x == n with
    | true =>
      simp only [List.map_cons,List.lookup_cons] at h ⊢
      by_cases hc:(k == NameKind.free && env.scope.kind == .function && env.kindOf n == some .cell)=true
      · have hk:k=.free:=by
          simp only [Bool.and_eq_true,beq_iff_eq] at hc;exact hc.1.1
        right;simp [hx,hk]
      · rw [if_neg hc] at h;simp only [List.lookup_cons,hx] at h ⊢;exact h
    | false =>
      simp only [List.map_cons,List.lookup_cons] at h ⊢
      by_cases hc:(k == NameKind.free && env.scope.kind == .function && env.kindOf n == some .cell)=true
      · rw [if_pos hc] at h;simp only [List.lookup_cons,hx] at h ⊢;exact ih h
      · rw [if_neg hc] at h;simp only [List.lookup_cons,hx] at h ⊢;exact ih h
theorem FX {env:Env} {x:Str}:∀ {names:List (Str×NameKind)}, 
    (names.map fun (n,k)=>if (k == NameKind.free && env.scope.kind == .function && env.kindOf n == some .cell) then (n,NameKind.cell) else (n,k)).lookup x=some .local ->
    names.lookup x=some .local
  | [],h=>by simp at h
  | (n,k)::r,h=>by
    have ih:=@FX env x r;cases hx:x == n with
    | true =>
      simp only [List.map_cons,List.lookup_cons] at h ⊢
      by_cases hc:(k == NameKind.free && env.scope.kind == .function && env.kindOf n == some .cell)=true
      · rw [if_pos hc] at h;simp only [List.lookup_cons,hx] at h;cases h
      · rw [if_neg hc] at h;simp only [List.lookup_cons,hx] at h ⊢;exact h
    | false =>
      simp only [List.map_cons,List.lookup_cons] at h ⊢
      by_cases hc:(k == NameKind.free && env.scope.kind == .function && env.kindOf n == some .cell)=true
      · rw [if_pos hc] at h;simp only [List.lookup_cons,hx] at h ⊢;exact ih h
      · rw [if_neg hc] at h;simp only [List.lookup_cons,hx] at h ⊢;exact ih h
theorem Mg {scope:Scope} {env:Env} (hhas:∀ x,scope.names.lookup x=some .free->∃ c,env.cells.lookup x=some c) (hnd:∀ x k,(x,k)∈scope.names->k=.free->scope.names.lookup x=some .free) :
    ∃ cl,closureFor scope env=pure cl/\(∀ x c,cl.lookup x=some c->env.cells.lookup x=some c)/\∀ x,scope.names.lookup x=some .free->∃ c,cl.lookup x=some c:=by
  have go:∀ (names:List (Str×NameKind)) (cs:List (Str×Addr)),(∀ x k,(x,k)∈names->k=.free->∃ c,env.cells.lookup x=some c)->(∀ x c,cs.lookup x=some c->env.cells.lookup x=some c) ->
      ∃ cl,(forIn names cs (fun (x:Str×NameKind) (r:List (Str×Addr))=>(if (x.2 == NameKind.free)=true then (cellOf env x.1 >>= fun c=>(pure (ForInStep.yield ((x.1,c)::r)):Sem _)) else pure (ForInStep.yield r))))=(pure cl:Sem _) /\
        (∀ x c,cl.lookup x=some c->env.cells.lookup x=some c)/\(∀ x,(cs.lookup x).isSome=true->(cl.lookup x).isSome=true)/\∀ x,(x,NameKind.free)∈names->(cl.lookup x).isSome=true:=by
    intro names
    induction names with
    | nil=>intro cs _ h2;exact ⟨cs,by simp,h2,fun _ z=>z,fun _ z=>by simp at z⟩
    | cons p r ih =>
      intro cs h1 h2;obtain ⟨n,k⟩:=p
      by_cases hk:k=.free
      · subst hk;obtain ⟨c,hc⟩:=h1 n _ List.mem_cons_self rfl;have hcell:cellOf env n=pure c:=by unfold cellOf;rw [hc]
        obtain ⟨cl,e,a,b,d⟩:=ih ((n,c)::cs) (fun x k hx hk=>h1 x k (List.mem_cons_of_mem _ hx) hk) (fun x c' hx=>by
          rw [List.lookup_cons] at hx;cases hxn:x == n with
          | true => rw [hxn] at hx; simp at hx; subst hx; have : x = n := by simpa using hxn
                    rw [this];exact hc
          | false=>rw [hxn] at hx;exact h2 x c' hx)
        refine ⟨cl,?_,a,fun x hx=>b x ?_,fun x hx=>?_⟩
        · rw [List.forIn_cons];simp only [hcell];simpa using e
        · rw [List.lookup_cons];cases hxn:x == n with
          | true=>rfl
          | false=>exact hx
        · rcases List.mem_cons.mp hx with z | z
          · injection z with z1 _
            subst z1;exact b x (by rw [List.lookup_cons];simp)
          · exact d x z
      · have hb:(k == NameKind.free)=false:=by simpa using hk
        obtain ⟨cl,e,a,b,d⟩:=ih cs (fun x k hx hk=>h1 x k (List.mem_cons_of_mem _ hx) hk) h2;refine ⟨cl,?_,a,b,fun x hx=>?_⟩
        · rw [List.forIn_cons];simp only [hb];simpa using e
        · rcases List.mem_cons.mp hx with z | z
          · injection z with _ z2
            exact absurd z2.symm hk
          · exact d x z
  obtain ⟨cl,e,a,_,d⟩:=go scope.names [] (fun x k hx hk=>hhas x (hnd x k hx hk)) (fun x c h=>by simp at h);refine ⟨cl,?_,a,fun x hx=>Option.isSome_iff_exists.mp (d x (PySem.mem_of_lookup hx))⟩;unfold closureFor;simpa using e
theorem Bz:∀ (names:List (Str×NameKind)) (n:Nat) (acc:List (Str×Addr)),cellsFrom n names acc=cellsFrom n names []++acc
 | [],n,acc=>by simp [cellsFrom]
 | (x,k)::r,n,acc=>by
  unfold cellsFrom;split
  ·rw [Bz r (n+1) ((x,n)::acc),Bz r (n+1) [(x,n)],List.append_assoc];rfl
  ·exact Bz r n acc
theorem Ff {x:Str} {c:Addr}:∀ (names:List (Str×NameKind)) (n:Nat),(x,c)∈cellsFrom n names []->(x,NameKind.cell)∈names
 | [],n,h=>by simp [cellsFrom] at h
 | (y,k)::r,n,h=>by
  unfold cellsFrom at h;split at h
  ·rename_i hk;have hk:k=.cell:=by simpa using hk
   rw [Bz] at h;rcases List.mem_append.mp h with h | h
   ·exact List.mem_cons_of_mem _ (Ff r _ h)
   ·rw [List.mem_singleton] at h;cases h;rw [hk];exact List.mem_cons_self
  ·exact List.mem_cons_of_mem _ (Ff r _ h)
theorem Fg {x:Str}:∀ (names:List (Str×NameKind)) (n:Nat),(x,NameKind.cell)∈names->∃ c,(cellsFrom n names []).lookup x=some c
 | [],n,h=>by cases h
 | (y,k)::r,n,h=>by
  unfold cellsFrom
  by_cases hr:(x,NameKind.cell)∈r
  ·split
   ·rw [Bz];obtain ⟨c,e⟩:=Fg r (n+1) hr;exact ⟨c,by rw [List.lookup_append,e];rfl⟩
   ·exact Fg r n hr
  ·rcases List.mem_cons.mp h with e | e
   ·cases e;simp only [beq_self_eq_true,if_true];rw [Bz];cases q:(cellsFrom (n+1) r []).lookup x with
    | some c=>exact ⟨c,by rw [List.lookup_append,q];rfl⟩
    | none=>exact ⟨n,by rw [List.lookup_append,q];simp⟩
   ·exact absurd e hr
theorem Ea {M:Model} {A:Around} {E:Value->Shared->Prop} {s:Shared} {scope:Scope} {globals:Addr} {closure:List (Str×Addr)} {qual:Str} {outer:Env} {Q:Env->Shared->Prop}
    (hQ:Q { scope:=scope,locals:=s.heap.objs.size,globals:=globals,cells:=cellsFrom (s.heap.objs.size+1) scope.names closure,qual:=qual,func:=none,code:=outer.code,frame:=outer.frame,builtins:=outer.builtins } { s with heap:=pushCells (s.heap.push { cls:=.type "dict", data:=.dict #[] }) scope.names }) :
    wpAny M A (newFunctionEnv scope globals closure [] qual none .none (some outer)) Q E s:=by
  simp only [newFunctionEnv,Option.isSome_some,if_true];refine wpAny_bind (wpAny_alloc ?_);refine wpAny_bind (wpAny_layCells _ (fun name kind cells=>by cases hkc:kind == NameKind.cell<;>simp [hkc]) _ _ _ _ ?_)
  rw [show ({ s with heap:=s.heap.push { cls:=.type "dict", data:=.dict #[] } }:Shared).heap.objs.size=s.heap.objs.size+1 from Heap.size_push ..]
  rw [List.forIn_nil];exact wpAny_bind (wpAny_pure (wpAny_pure hQ))
noncomputable def innerOk (N:List Str) (sc scope:Scope) (js:List Nat):Bool:=
 (match scope.kind with | .function=>true | _=>false) &&
 scope.names.all (fun p=>(match p.2 with
  | .cell=>(match scope.names.lookup p.1 with | some .cell=>true | _=>false)
  | .local=>(match scope.names.lookup p.1 with | some .local=>true | _=>false)
  | .free=>(match scope.names.lookup p.1 with | some .free=>true | _=>false) && (match sc.names.lookup p.1 with | some .cell=>true | some .free=>true | _=>false)
  | _=>true)) &&
 (N.zipIdx.all fun p=>(match scope.names.lookup p.1 with | some .local=>js.contains p.2 | some .cell=>js.contains p.2 | _=>true))
structure InnerIn (N:List Str) (sc scope:Scope) (js:List Nat):Prop where
 kind:scope.kind=.function
 uniqC:∀ x k,(x,k)∈scope.names->k=.cell->scope.names.lookup x=some .cell
 uniqL:∀ y∈scope.names,y.2=.local->scope.names.lookup y.1=some .local
 uniqF:∀ x k,(x,k)∈scope.names->k=.free->scope.names.lookup x=some .free
 fr:∀ x,scope.names.lookup x=some .free->sc.names.lookup x=some .cell\/sc.names.lookup x=some .free
 jsl:∀ (i:Nat) x,N[i]?=some x->scope.names.lookup x=some .local\/scope.names.lookup x=some .cell->i∈js
theorem MM {N:List Str} {sc scope:Scope} {js:List Nat} (h:innerOk N sc scope js=true):InnerIn N sc scope js:=by
  unfold innerOk at h;rw [Bool.and_eq_true,Bool.and_eq_true] at h;obtain ⟨⟨h1,h2⟩,h3⟩:=h;rw [List.all_eq_true] at h2 h3;refine ⟨?_,fun x k hy e=>?_,fun y hy e=>?_,fun x k hy e=>?_,fun x e=>?_,fun i x e1 e2=>?_⟩
  · cases q:scope.kind<;>rw [q] at h1<;>first | rfl | cases h1
  · have:=h2 _ hy;rw [e] at this;dsimp only at this;split at this
    · assumption
    · cases this
  · have:=h2 y hy;rw [e] at this;dsimp only at this;split at this
    · assumption
    · cases this
  · have:=h2 _ hy;rw [e] at this;dsimp only at this;rw [Bool.and_eq_true] at this;have:=this.1;split at this
    · assumption
    · cases this
  · have:=h2 _ (PySem.mem_of_lookup e);dsimp only at this;rw [Bool.and_eq_true] at this;have:=this.2;split at this
    · left;assumption
    · right;assumption
    · cases this
  · have hm:(x,i)∈N.zipIdx:=by
      rw [List.mem_zipIdx_iff_getElem?];exact e1
    have:=h3 _ hm;dsimp only at this;rcases e2 with e2 | e2
    · rw [e2] at this;dsimp only at this;simpa using this
    · rw [e2] at this;dsimp only at this;simpa using this
def blank (js:List Nat) (σ:St):St:=js.foldl (fun σ j=>σ.set j none) σ
theorem blank_length (js:List Nat):∀ σ:St,(blank js σ).length=σ.length:=by
 induction js with
 | nil=>intro σ;rfl
 | cons j r ih=>intro σ;unfold blank;rw [List.foldl_cons];have:=ih (σ.set j none);unfold blank at this;rw [this,List.length_set]
theorem KM (js:List Nat):∀ (σ:St) (i:Nat) (v:V),(blank js σ)[i]?=some (some v)->i∉js/\σ[i]?=some (some v):=by
 induction js with
 | nil=>intro σ i v h;exact ⟨by simp,h⟩
 | cons j r ih =>
  intro σ i v h;unfold blank at h;rw [List.foldl_cons] at h;obtain ⟨a,b⟩:=ih (σ.set j none) i v h
  by_cases e:i=j
  ·subst e
   by_cases hl:i < σ.length
   ·rw [List.getElem?_set_self hl] at b;cases b
   ·rw [List.getElem?_eq_none (by rw [List.length_set];omega)] at b;cases b
  ·rw [List.getElem?_set_ne (Ne.symm e)] at b;exact ⟨by simp [e,a],b⟩
def ai (js:List Nat) (g:TG):Prop:=∀ x σ H Q,g x σ H Q->g x σ H fun σ2 H2=>(σ2.length=σ.length/\∀ i,i∉js->σ2[i]?=σ[i]?)/\Q σ2 H2
theorem Ay {j:Nat} {js:List Nat} (h:j∈js):ai js (MP j):=fun x σ H Q q=>⟨⟨List.length_set ..,fun i hi=>List.getElem?_set_ne (fun (e:j=i)=>hi (e▸h))⟩,q⟩
def dP (js:List Nat) (g:VC):Prop:=∀ x σ H Q,g x σ H Q->g x σ H fun σ2 H2=>(σ2.length=σ.length/\∀ i,i∉js->σ2[i]?=σ[i]?)/\Q σ2 H2
theorem Ra {js:List Nat}:dP js jS:=fun x σ H Q ⟨e,q⟩=>⟨e,⟨rfl,fun _ _=>rfl⟩,q⟩
theorem IC {j:Nat} {js:List Nat} {u:VC} (h:j∈js) (hu:dP js u):dP js (ZY (MP j) u):=by
 rintro x σ H Q ⟨v,r,e,q⟩;refine ⟨v,r,e,?_⟩;have:=hu r (σ.set j (some v)) H Q q;show u r (σ.set j (some v)) H _;have key:∀ (P P':St->Hp->Prop),(∀ a b,P a b->P' a b)->True:=fun _ _ _=>trivial
 have e2:(fun σ2 H2=>(σ2.length=(σ.set j (some v)).length/\∀ (i:Nat),i∉js->σ2[i]?=(σ.set j (some v))[i]?)/\Q σ2 H2)=(fun σ2 H2=>(σ2.length=σ.length/\∀ (i:Nat),i∉js->σ2[i]?=σ[i]?)/\Q σ2 H2):=by
  funext σ2 H2;have e3:(∀ (i:Nat),i∉js->σ2[i]?=(σ.set j (some v))[i]?)=(∀ (i:Nat),i∉js->σ2[i]?=σ[i]?):=by
   apply propext;constructor
   ·intro k i hi;rw [k i hi,List.getElem?_set_ne (fun (e:j=i)=>hi (e▸h))]
   ·intro k i hi;rw [k i hi,List.getElem?_set_ne (fun (e:j=i)=>hi (e▸h))]
  rw [e3,List.length_set]
 rw [e2] at this;exact this
theorem Ud {K:W.Frag} {n:Nat} {js:List Nat} {u:VC} (hu:dP js u):ai js (cb K n u):=by
 rintro x σ H Q ⟨a,xs,e,hq,hl,q⟩;exact ⟨a,xs,e,hq,hl,hu _ _ _ _ q⟩
section
variable {X:Cx} {pins:List (Addr×Obj)} {σ:St} {H:Hp} {s:Shared} {scope:Scope} {cl:List (Str×Addr)} {js:List Nat} {fp:List Addr} {C D:Addr}
theorem Inv.notStk (I:Inv X pins σ H s) {a:Addr} (h:s.heap.objs.size<=a):a∉Ug X.stack:=fun hb=>by
 rcases List.mem_cons.mp (I.stkSub a hb) with e | e
 ·exact absurd (Nat.lt_of_lt_of_le I.lt (e▸h)) (Nat.lt_irrefl _)
 ·exact I.nofs h e
theorem Inv.cellLt (I:Inv X pins σ H s) {x:Str} {c:Addr} (e:X.env.cells.lookup x=some c):c < s.heap.objs.size:=by
 obtain ⟨v,q⟩:=I.cell x c e;exact q.lt
theorem Inv.pinLt (I:Inv X pins σ H s) {p:Addr×Obj} (hp:p∈X.pn++pins):p.1 < s.heap.objs.size:=Heap.lt_size (I.pin p hp).1
structure Celz (X:Cx) (scope:Scope) (cl:List (Str×Addr)) (s:Shared) (C:Addr):Prop where
 old:∀ x c,cl.lookup x=some c->BN scope x=false->X.env.cells.lookup x=some c
 own:∀ x c,cl.lookup x=some c->BN scope x=true->s.heap.objs.size<=c/\C < c
 inj:∀ x y c,cl.lookup x=some c->cl.lookup y=some c->BN scope x=true->BN scope y=true->x=y
 fr:∀ x,scope.names.lookup x=some .free->∃ c,cl.lookup x=some c
 has:∀ x,BN scope x=true->∃ c,cl.lookup x=some c
theorem Celz.ne (L:Celz X scope cl s C) {x:Str} {c b:Addr} (e:cl.lookup x=some c) (hb:b < s.heap.objs.size) (h:∀ x c,X.env.cells.lookup x=some c->c≠b):c≠b:=by
 cases q:BN scope x with
 | false=>exact h x c (L.old x c e q)
 | true=>exact Nat.ne_of_gt (Nat.lt_of_lt_of_le hb (L.own x c e q).1)
theorem cw {cl0:List (Str×Addr)} (hin:InnerIn X.N X.env.scope scope js) (hcl:∀ x c,cl0.lookup x=some c->X.env.cells.lookup x=some c) (hfr:∀ x,scope.names.lookup x=some .free->∃ c,cl0.lookup x=some c)
    {h:Heap} (hC:s.heap.objs.size<=C) (hs:h.objs.size=C+1):Celz X scope (cellsFrom (C+1) scope.names cl0) s C/\∀ x c,(cellsFrom (C+1) scope.names cl0).lookup x=some c->BN scope x=true->∃ v,(pushCells h scope.names).IsCell c v:=by
  have ok:=cellsFrom_ok scope.names h (C+1) [] ⟨fun _ _ hm=>(nomatch hm),List.Pairwise.nil⟩ (by rw [hs];exact Nat.le_refl _);rw [hs] at ok;rw [Bz];generalize hw:cellsFrom (C+1) scope.names []=own at ok;have mem:∀ x c,own.lookup x=some c->BN scope x=true:=fun x c e=>by
    have:=hin.uniqC x _ (Ff scope.names (C+1) (by rw [hw];exact PySem.mem_of_lookup e)) rfl;unfold BN;rw [this]
  have has:∀ x,BN scope x=true->∃ c,own.lookup x=some c:=fun x e=>by
    unfold BN at e;split at e
    · rename_i q;obtain ⟨c,z⟩:=Fg scope.names (C+1) (PySem.mem_of_lookup q);rw [hw] at z;exact ⟨c,z⟩
    · cases e
  have yes:∀ x c,(own++cl0).lookup x=some c->BN scope x=true->own.lookup x=some c:=fun x c e q=>by
    obtain ⟨c',z⟩:=has x q;rw [List.lookup_append,z] at e;rw [z];exact e
  have no:∀ x,BN scope x=false->(own++cl0).lookup x=cl0.lookup x:=fun x q=>by
    rw [List.lookup_append];cases z:own.lookup x with
    | none=>rfl
    | some c=>rw [mem x c z] at q;cases q
  refine ⟨⟨fun x c e q=>hcl x c (by rw [<- no x q];exact e),fun x c e q=>?_,fun x y c e1 e2 q1 q2=>?_,fun x e=>?_,fun x q=>?_⟩,fun x c e q=>?_⟩
  · have:=(ok.empty x c (PySem.mem_of_lookup (yes x c e q))).2;exact ⟨Nat.le_trans hC (Nat.le_of_succ_le this),this⟩
  · exact PySem.name_of_addr ok.apart (PySem.mem_of_lookup (yes x c e1 q1)) (PySem.mem_of_lookup (yes y c e2 q2))
  · obtain ⟨c,z⟩:=hfr x e;exact ⟨c,by rw [no x (by unfold BN;rw [e])];exact z⟩
  · obtain ⟨c,z⟩:=has x q;exact ⟨c,by rw [List.lookup_append,z];rfl⟩
  · exact ⟨none,(ok.empty x c (PySem.mem_of_lookup (yes x c e q))).1⟩
theorem Inv.innerOk (I:Inv X pins σ H s) (hin:InnerIn X.N X.env.scope scope js) (hf:∀ b∈fp,FpOk X pins H b) (hfe:∀ b∈fp,b < s.heap.objs.size) (hC:s.heap.objs.size<=C)
    (L:Celz X scope cl s C):(X.inner scope cl C s H fp).Ok where
  mod:=I.ok.mod
  kind:=hin.kind
  glob:=I.ok.glob
  blt:=I.ok.blt
  above:=hC
  inj:=fun x y c a b=>by
    cases hx:BN scope x<;>cases hy:BN scope y
    · exact I.ok.inj x y c (L.old x c a hx) (L.old y c b hy)
    · exact absurd (I.cellLt (L.old x c a hx)) (Nat.not_lt.mpr (L.own y c b hy).1)
    · exact absurd (I.cellLt (L.old y c b hy)) (Nat.not_lt.mpr (L.own x c a hx).1)
    · exact L.inj x y c a b hx hy
  has:=fun x h=>by
    rcases Bt (scope:=scope) (env:=X.env) (names:=scope.names) h with q | q
    · exact L.has x (by unfold BN;rw [q])
    · exact L.fr x q
  cab:=fun x c h e=>(L.own x c e h).1
  hd:=I.ok.hd
  frames:=I.ok.frames
  stk:=.inl rfl
  exf:=fun b hb=>⟨Nat.ne_of_lt (Nat.lt_of_lt_of_le (hfe b hb) hC),fun x c e=>L.ne e (hfe b hb) (hf b hb).2.2.2.2.1⟩
  bs:=I.bs
  bsz:=Nat.le_trans I.ok.bsz I.sz
  noex:=fun b o e hb=>by
    rcases (hf b hb).2.2.2.1 with z | z
    · exact I.ok.noex b o e z
    · exact absurd (Nat.lt_of_lt_of_le (Heap.lt_size e) (Nat.le_trans I.ok.bsz z)) (Nat.lt_irrefl _)
  exfs:=fun b hb z=>by
    rcases List.mem_cons.mp (I.stkSub b z) with e | e
    · exact (hf b hb).2.1 e
    · exact (hf b hb).2.2.1 e
  funs:=I.stack
  frf:=I.stkFree
theorem Inv.enter {h':Heap} {tk:Nat} {o:Obj} (I:Inv X pins σ H s) (hin:InnerIn X.N X.env.scope scope js) (hf:∀ b∈fp,FpOk X pins H b) (hfe:∀ b∈fp,b < s.heap.objs.size) (hC:s.heap.objs.size<=C) (hD:s.heap.objs.size<=D) (hDC:D≠C)
    (L:Celz X scope cl s C) (hown:∀ x c,cl.lookup x=some c->BN scope x=true->∃ v,h'.IsCell c v)
    (k:∀ b u,s.heap.get? b=some u->h'.get? b=some u) {m:Str->Option Value} (hns:h'.Ns C m) (ho:h'.get? D=some o) (hoc:∀ v,o.data≠.cell v) :
    Inv (X.inner scope cl C s H fp) (pins++[(D,o)]) (blank js σ) H { s with heap:=h',toks:=tk } where
  ok:=I.innerOk hin hf hfe hC L
  os:=rfl
  bare:=I.bare
  base:=Un.kept k
  loc:=by
    refine ⟨m,hns,fun i x v e1 e2 e3=>?_⟩;obtain ⟨hj,e2⟩:=KM js σ i v e2;have free:scope.names.lookup x=some .free:=by
      rcases e3 with q | q | q
      · exact absurd (hin.jsl i x e1 (.inl (FX (env:=X.env) (names:=scope.names) q))) hj
      · rcases Bt (scope:=scope) (env:=X.env) (names:=scope.names) (.inl q) with z | z
        · exact absurd (hin.jsl i x e1 (.inr z)) hj
        · exact z
      · rcases Bt (scope:=scope) (env:=X.env) (names:=scope.names) (.inr q) with z | z
        · exact absurd (hin.jsl i x e1 (.inr z)) hj
        · exact z
    have kx:=hin.fr x free;obtain ⟨m0,hn0,hl0⟩:=I.loc;obtain ⟨u,r,l⟩:=hl0 i x v e1 e2 (kx.elim (fun z=>.inr (.inl z)) fun z=>.inr (.inr z));refine ⟨u,r,?_⟩;rcases l with ⟨z,_⟩ | ⟨_,c,hc,hcell⟩
    · have z':X.env.scope.names.lookup x=some .local:=z;rcases kx with y | y
      · rw [y] at z';cases z'
      · rw [y] at z';cases z'
    · obtain ⟨c',hc'⟩:=L.fr x free;have:c'=c:=by
        have q:=L.old x c' hc' (by unfold BN;rw [free]);rw [hc] at q;exact (Option.some.inj q).symm
      subst this;obtain ⟨oc,q1,q2⟩:=hcell;refine .inr ⟨?_,c',hc',oc,k _ _ q1,q2⟩;rcases e3 with q | q | q
      · have:=FX (env:=X.env) (names:=scope.names) q;rw [free] at this;cases this
      · exact .inl q
      · exact .inr q
  cell:=fun x c e=>by
    cases q:BN scope x with
    | true=>exact hown x c e q
    | false =>
      obtain ⟨v,oc,q1,q2⟩:=I.cell x c (L.old x c e q);exact ⟨v,oc,k _ _ q1,q2⟩
  free:=I.hok.fresh hC
  freeC:=fun x c e=>by
    cases q:BN scope x with
    | true=>exact I.hok.fresh (L.own x c e q).1
    | false=>exact I.freeC x c (L.old x c e q)
  pin:=fun p hp=>by
    have hp':p∈X.pn++(pins++[(D,o)]):=hp;rw [<- List.append_assoc] at hp';rcases List.mem_append.mp hp' with z | z
    · obtain ⟨a1,a2,a3,a4,a5⟩:=I.pin p z;refine ⟨k _ _ a1,a2,Nat.ne_of_lt (Nat.lt_of_lt_of_le (Heap.lt_size a1) hC),fun q=>?_,a5⟩;rcases List.mem_cons.mp (I.stkSub p.1 q) with e | e
      · exact a3 e
      · exact a4 e
    · have e:p=(D,o):=by simpa using z
      subst e;exact ⟨ho,I.hok.fresh hD,hDC,I.notStk hD,hoc⟩
  hok:=I.hok.kept k
  len:=(blank_length js σ).trans I.len
theorem Inv.leave {Y:Cx} {H':Hp} {s':Shared} {τ:St} {pl:List (Addr×Obj)} {ys:List V} {its:List Value} {n:Nat} (I:Inv X pins σ H s) (hf:∀ b∈fp,FpOk X pins H b) (hY:Y=X.inner scope cl C s H fp) (J:Inv Y pl τ H' s') (hD:s.heap.objs.size<=D)
    (hHD:H' D=none) (hz:ys.length<=sizeLine) (hv:Am ys its) (ho:s'.heap.get? D=some { cls:=.type "list", data:=.seq its.toArray n }) :
    Inv X pins σ (upd H' D (.lst ys)) s':=by
  subst hY;have un:Un (Ug X.stack) fp H H' s.heap s'.heap:=J.base;have ne:∀ {b:Addr} {o:Obj},s.heap.get? b=some o->b≠D:=fun e=>Nat.ne_of_lt (Nat.lt_of_lt_of_le (Heap.lt_size e) hD)
  have nH:∀ {b:Addr} {o:HO},H' b=some o->b≠D:=fun e z=>by rw [z,hHD] at e;cases e
  have un':Un (Ug X.stack) fp H (upd H' D (.lst ys)) s.heap s'.heap:=
    ⟨un.keep,un.slot,fun b o e n' hx=>by rw [BL (ne e)];exact un.free b o e n' hx,un.there,fun b xs e=>by have:=un.tups b xs e;rw [BL (nH this)];exact this,
      fun b o u e=>by have:=un.frzs b o u e;rw [BL (nH this)];exact this,fun b ps e=>by obtain ⟨more,q⟩:=un.tbls b ps e;exact ⟨more,by rw [BL (nH q)];exact q⟩⟩
  have hok:Ks X.prog X.w (upd H' D (.lst ys)) s'.heap:=fun b u e=>by
    by_cases hb:b=D
    · subst hb;rw [Cy] at e;cases e;exact ⟨hz,its,n,hv,ho⟩
    · rw [BL hb] at e;exact (J.hok b u e).stay (fun _ _ _ q=>q) (fun c q=>by rw [BL (nH q)];exact q) fun c xs q=>by rw [BL (nH q)];exact q
  exact I.call' J.os un' hok J.bare fun b hb=>by
    obtain ⟨_,f1,_,f3,f4,f5⟩:=hf b hb;exact ⟨f3,f1,f4,f5⟩
end
section
end
section
end
section
variable {X:Cx}
def ky:V->Option Int->Option Int->Hp->VK->Prop:=fun x lo hi H Q=>∃ z,x=.str z/\z.length<=sizeLine/\Q (.str (Txt.slice z lo hi)) H
theorem gm:ae X ky:=by
 intro pins s σ H x v vl vu lo hi sl Q I rx hs pl pu h;obtain ⟨z,rfl,hz,q⟩:=h;obtain ⟨t,rfl⟩:=rx;have fin:∀ t' k,EP X pins σ Q (.str (Txt.slice z lo hi) t') { s with toks:=k }:=fun t' k=>⟨.str _,H,I.tok k,⟨_,rfl⟩,q⟩
 refine ⟨"str", _,F.slot_str_getitem.lookup,typeIs_str _ _ _,?_⟩
 obtain ⟨o,e1,e2,e3⟩:=hs;cases pl with
 | none =>
  cases pu with
  | none=>exact wpAny_getItem_str_slice (l:=none) (u:=none) (st:=none) ⟨o,e1,e2,e3⟩ rfl (post_val_or_str ⟨Nat.le_trans (Txt.slice_le z _ _) hz,fin⟩)
  | int j uj=>exact wpAny_getItem_str_slice (l:=none) (u:=some (j,uj)) (st:=none) ⟨o,e1,e2,e3⟩ rfl (post_val_or_str ⟨Nat.le_trans (Txt.slice_le z _ _) hz,fin⟩)
 | int i ui =>
  cases pu with
  | none=>exact wpAny_getItem_str_slice (l:=some (i,ui)) (u:=none) (st:=none) ⟨o,e1,e2,e3⟩ rfl (post_val_or_str ⟨Nat.le_trans (Txt.slice_le z _ _) hz,fin⟩)
  | int j uj=>exact wpAny_getItem_str_slice (l:=some (i,ui)) (u:=some (j,uj)) (st:=none) ⟨o,e1,e2,e3⟩ rfl (post_val_or_str ⟨Nat.le_trans (Txt.slice_le z _ _) hz,fin⟩)
theorem SZ {ys:List Str}:∀ {us:List Value},Am (ys.map V.str) us->StrsAre us ys:=by
 induction ys with
 | nil=>intro us r;rw [List.map_nil] at r;cases r;exact .nil
 | cons n ns ih =>
  intro us r;rw [List.map_cons] at r;cases r with
  | cons r1 r2 =>
   obtain ⟨t,e⟩:=r1;subst e;exact .cons n t (ih r2)
def Xa (K:W.Frag):V->List V->Hp->VK->Prop:=fun x vs H Q=>∃ sep l ys,x=.str sep/\vs=[.ref l]/\HC K H l (ys.map V.str)/\(ys.map (·.length)).sum+ys.length * sep.length<=16777216/\Q (.str (Txt.join sep ys)) H
theorem cL:kS X "str.join" (Xa X.K):=by
 intro pins s σ H x vs v us Q I rx rv h;obtain ⟨sep,l,ys,rfl,rfl,hl,hz,q⟩:=h;obtain ⟨t,rfl⟩:=rx;obtain ⟨u,rfl,ru⟩:=rv.one;cases ru;obtain ⟨its,r,p,_⟩:=I.list hl;exact join_list p.isList (by simpa using SZ r) hz fun t' k=>⟨.str _,H,I.tok k,⟨_,rfl⟩,q⟩
end
structure Fx (P:Program) (w:World) (K:W.Frag) (mg:Str->Option Value) (base:Heap) (k:Nat) (x:Str) (ps:List Str) (sp:Sp):Prop where
 ex:∃ (f:Addr) (fd:FuncData),FnOk P w K mg base IJ k f fd ps sp/\mg x=some (.ref f)/\W.keepIn K (.ref f)=true/\Binds K fd ps []
section
variable {X:Cx} {k j:Nat} {x:Str} {ps:List Str} {sp:Sp} {p pos:Pos} {e:Expr} {es:List Expr} {t:TA}
abbrev qj (sp:Sp) (t:TA):TE:=fun σ H Q=>t σ H fun vs H1=>sp vs H1 Q E0
theorem eQ (F:Fx X.prog X.w X.K X.mg X.base k x ps sp) (hr:Room j X.A) (hkj:k<=j) (hg:Gl X x) (ha:PA X (e::es) t) (hdb:(x == ("__debug__" : Str))=false:=by decide)
    (he:starEach (e::es) X.env=(false,eval e X.env)::starEach es X.env:=by rfl) (hpl:(backTo pos (starEach es X.env)).any (·.1)=false:=by rfl):PE X (.Call (.Name x p) (e::es) [] pos) (qj sp t):=by
  obtain ⟨f,fd,G,hm,hk,hb⟩:=F.ex;have q:=bw (p:=p) (pos:=pos) G (hr.mono hkj) hg hm hk hb .nil lX ha hdb he hpl;intro pins s σ H Q I h;refine q pins s σ H Q I ?_;show t σ H fun vs H1=>sp (vs++[]) H1 Q E0
  have e2:(fun (vs:List V) (H1:Hp)=>sp (vs++[]) H1 Q E0)=(fun vs H1=>sp vs H1 Q E0):=by
    funext vs H1;rw [List.append_nil]
  rw [e2];exact h
end
section
variable {X:Cx}
def lK:R2:=fun x y H Q=>∃ i j,x=.str i/\y=.str j/\i.length+j.length<=sizeLine/\Q (.str (i++j)) H
def Qu (K:W.Frag):R2:=fun x y H Q=>(VX fun i j=>.int (i+j)) x y H Q\/lK x y H Q\/lI x y H Q\/eL K x y H Q
theorem cE:FW X (binaryOp .Add) (Qu X.K):=iq.or (Sm.or (il.or cC))
theorem aa {K:W.Frag} {i j:Int} {H:Hp} {Q:VK} (q:Q (.int (i+j)) H):Qu K (.int i) (.int j) H Q:=.inl ⟨i,j,rfl,rfl,q⟩
theorem aY {K:W.Frag} {i j:Str} {H:Hp} {Q:VK} (h:i.length+j.length<=1000000) (q:Q (.str (i++j)) H):Qu K (.str i) (.str j) H Q:=.inr (.inl ⟨i,j,rfl,rfl,Nat.le_trans h (by decide),q⟩)
theorem aZ {K:W.Frag} {a b:Addr} {xs ys:List V} {H:Hp} {Q:VK} (ha:H a=some (.lst xs)) (hb:H b=some (.lst ys)) (h:xs.length+ys.length<=1000000) (q:∀ p,H p=none->Q (.ref p) (upd H p (.lst (xs++ys)))):Qu K (.ref a) (.ref b) H Q:=
 .inr (.inr (.inl ⟨a,b,xs,ys,rfl,rfl,ha,hb,Nat.le_trans h (by decide),q⟩))
theorem bR {K:W.Frag} {p:Addr} {xs:List V} {i:Int} {v:V} {H:Hp} {Q:VK} (h:H p=some (.lst xs)) (e:Gy xs i=some v) (q:Q v H):gw K (.ref p) (.int i) H Q:=.inl ⟨p,xs,i,v,rfl,rfl,.inl (.inl h),e,q⟩
theorem gu {K:W.Frag} {p:Addr} {xs:List V} {i:Int} {v:V} {H:Hp} {Q:VK} (h:HC K H p xs) (e:Gy xs i=some v) (q:Q v H):gw K (.ref p) (.int i) H Q:=.inl ⟨p,xs,i,v,rfl,rfl,h,e,q⟩
theorem bQ {K:W.Frag} {z:Str} {i:Int} {c:Nat} {H:Hp} {Q:VK} (h:z.length<=1000000) (e:Gy z.cps.toList i=some c) (q:Q (.str ⟨#[c]⟩) H):gw K (.str z) (.int i) H Q:=.inr (.inr ⟨z,i,c,rfl,rfl,Nat.le_trans h (by decide),e,q⟩)
theorem jP:WY X (gw X.K):=jO
def XW (K:W.Frag):V->Option Int->Option Int->Hp->VK->Prop:=fun x lo hi H Q=>ky x lo hi H Q\/kz K x lo hi H Q\/kv K x lo hi H Q
theorem gn:ae X (XW X.K):=gm.or (bK.or gk)
theorem bH {K:W.Frag} {z:Str} {lo hi:Option Int} {H:Hp} {Q:VK} (h:z.length<=1000000) (q:Q (.str (Txt.slice z lo hi)) H):XW K (.str z) lo hi H Q:=.inl ⟨z,rfl,Nat.le_trans h (by decide),q⟩
theorem XH {K:W.Frag} {a:Addr} {xs:List V} {lo hi:Option Int} {H:Hp} {Q:VK} (h:HC K H a xs) (q:∀ p,H p=none->Q (.ref p) (upd H p (.lst (Jk xs lo hi)))):XW K (.ref a) lo hi H Q:=.inr (.inl ⟨a,xs,rfl,h,q⟩)
theorem bI {K:W.Frag} {a:Addr} {xs:List V} {lo hi:Option Int} {H:Hp} {Q:VK} (h:H a=some (.lst xs)) (q:∀ p,H p=none->Q (.ref p) (upd H p (.lst (Jk xs lo hi)))):XW K (.ref a) lo hi H Q:=XH (.inl (.inl h)) q
theorem bO:kF X XX:=set_list
def VW (K:W.Frag):List V->Hp->VK->Prop:=fun xs H Q=>∃ x n,xs=[x]/\mz K x H n/\Q (.int n) H
theorem WN:GP X (.builtin "len") (VW X.K):=Zt
theorem Vv {K:W.Frag} {z:Str} {H:Hp} {Q:VK} (h:z.length<=1000000) (q:Q (.int z.length) H):VW K [.str z] H Q:=⟨_,_,rfl,⟨Nat.le_trans h (by decide),rfl⟩,q⟩
theorem Yp {K:W.Frag} {p:Addr} {xs:List V} {H:Hp} {Q:VK} (h:HC K H p xs) (q:Q (.int xs.length) H):VW K [.ref p] H Q:=⟨_,_,rfl,.inl ⟨xs,h,rfl⟩,q⟩
theorem cW {K:W.Frag} {p:Addr} {xs:List V} {H:Hp} {Q:VK} (h:H p=some (.lst xs)) (q:Q (.int xs.length) H):VW K [.ref p] H Q:=Yp (.inl (.inl h)) q
end
theorem HU {H:Hp} {p:Addr} (h:H p=none) (o:HO):af H (upd H p o):=fun b u q=>by rw [BL (Dr q h)];exact q
section
variable {X:Cx}
theorem pC (K:W.Frag) (h:X.K=K:=by rfl):WY X (gw K):=by subst h;exact jP
theorem Bb (K:W.Frag) (h:X.K=K:=by rfl):GP X (.builtin "len") (VW K):=by subst h;exact WN
theorem YN (K:W.Frag) (h:X.K=K:=by rfl):kS X "str.join" (Xa K):=by subst h;exact cL
def Tr (K:W.Frag):List V->Hp->VK->Prop:=fun xs H Q=>∃ p ys,xs=[.ref p]/\(HC K H p ys\/IK K H p ys)/\∀ l,H l=none->Q (.ref l) (upd H l (.lst ys))
theorem Gj (K:W.Frag) (h:X.K=K:=by rfl):GP X (.type "list") (Tr K):=by subst h;exact QG
def Qq (K:W.Frag):List V->Hp->VK->Prop:=fun xs H Q=>∃ p ys,xs=[.ref p]/\((HC K H p ys/\∀ l,H l=none->Q (.ref l) (upd H l (.tup ys)))\/(IK K H p ys/\Q (.ref p) H))
theorem An (K:W.Frag) (h:X.K=K:=by rfl):GP X (.type "tuple") (Qq K):=by subst h;exact NX
theorem Eg (K:W.Frag) {es:List Expr} {k:Nat} {t:VC} {n:Nat} {pos:Pos} (hc:X.calm=true) (h:mx X es t)
    (hn:(assignEach es X.env).length=n:=by rfl) (hst:(assignEach es X.env).findIdx? (·.1)=none:=by rfl) (hK:X.K=K:=by rfl):PG X (.Tuple es k pos) (cb K n t):=by subst hK;exact iH hc h hn hst
theorem bx (K:W.Frag) {o:Expr} {to:TE} {name:Str} {apos cpos:Pos} {T id:String} {r:V->List V->Hp->VK->Prop} (pa:PlainAttrs T) (slot:Slot T name id) (hty:typeOf (.builtin id)=pure (.type "method_descriptor")) (hm:ah X id r) (ho:PE X o to)
    (hbase:attributeBase o name X.env (eval o X.env)=eval o X.env:=by rfl) (hline:(apos.endLine == cpos.line)=true:=by rfl) (hK:X.K=K:=by rfl):PE X (.Call (.Attribute o name apos) [] [] cpos) (ko K T r to):=by subst hK;exact iQ pa slot hty hm ho hbase hline
theorem Xv (K:W.Frag) {o e:Expr} {es:List Expr} {to:TE} {t:TA} {name:Str} {apos cpos:Pos} {T id:String} {r:V->List V->Hp->VK->Prop} (pa:PlainAttrs T) (slot:Slot T name id) (hty:typeOf (.builtin id)=pure (.type "method_descriptor")) (hm:ah X id r) (ho:PE X o to) (ha:PA X (e::es) t)
    (hbase:attributeBase o name X.env (eval o X.env)=eval o X.env:=by rfl)
    (hfew:((backTo cpos (starEach (e::es) X.env)).all (fun x=>!x.1) && (backToKw cpos (keywordEach [] X.env)).all (fun x=>x.1.isSome)
      && decide ((e::es).length+([]:List Keyword).length+(if ([]:List Keyword).isEmpty then 0 else 1) < 30))=true:=by rfl)
    (hline:(apos.endLine == cpos.line)=true:=by rfl) (hs:starEach (e::es) X.env=(false,eval e X.env)::starEach es X.env:=by rfl) (hplain:(backTo cpos (starEach es X.env)).any (·.1)=false:=by rfl) (hK:X.K=K:=by rfl) :
    PE X (.Call (.Attribute o name apos) (e::es) [] cpos) (nF K T r to t):=by subst hK;exact lV pa slot hty hm ho ha hbase hfew hline hs hplain
end
noncomputable def tx (l:List Nat):Str:=⟨l.toArray⟩
theorem Ku (l:List Nat):(tx l).cps.toList=l:=by simp [tx]
theorem Et (l:List Nat):(tx l).length=l.length:=by simp [tx,Str.length]
theorem SL (a b:List Nat):tx a++tx b=tx (a++b):=by
 show (⟨(tx a).cps++(tx b).cps⟩:Str)=_;simp [tx]
theorem gb {a b:List Nat} (h:tx a=tx b):a=b:=by
 have:=congrArg (fun z:Str=>z.cps.toList) h;simpa [tx] using this
def TQ (l:List Nat) (lo hi:Option Int):List Nat:=(l.drop (HT.sIx l.length 0 lo)).take (HT.sIx l.length l.length hi - HT.sIx l.length 0 lo)
theorem Xp (l:List Nat) (a k:Nat) (h:a+k<=l.length):((List.range k).map fun j=>a+j).filterMap (fun i=>l[i]?)=(l.drop a).take k:=by
  apply List.ext_getElem?;intro i
  by_cases hi:i < k
  · rw [List.getElem?_take_of_lt hi,List.getElem?_drop];have e:(List.map (fun j=>a+j) (List.range k)).filterMap (fun i=>l[i]?)=(List.range k).map fun j=>l[a+j]!:=by
      rw [List.filterMap_map];rw [show (fun i=>l[i]?)∘(fun j=>a+j)=fun j=>l[a+j]? from rfl];have:∀ (r:List Nat),(∀ j∈r,a+j < l.length)->r.filterMap (fun j=>l[a+j]?)=r.map fun j=>l[a+j]!:=by
        intro r
        induction r with
        | nil=>intro _;rfl
        | cons x r ih =>
          intro hx;have hxl:=hx x List.mem_cons_self;rw [List.filterMap_cons,List.getElem?_eq_getElem hxl,List.map_cons,ih fun j hj=>hx j (List.mem_cons_of_mem _ hj)];simp [hxl]
      exact this _ fun j hj=>by have:=List.mem_range.mp hj;omega
    rw [e,List.getElem?_map,List.getElem?_range hi];have hl:a+i < l.length:=by omega
    simp [hl]
  · have e1:(((List.range k).map fun j=>a+j).filterMap (fun i=>l[i]?)).length<=k:=Nat.le_trans (List.length_filterMap_le _ _) (by simp);rw [List.getElem?_eq_none (by omega),List.getElem?_eq_none (by rw [List.length_take];omega)]
theorem cl (i:Int) (n:Nat):max 0 (min (if i < 0 then i+(n:Int) else i) (n:Int))=(((if i < 0 then (i+(n:Int)).toNat else min i.toNat n):Nat):Int):=by
 by_cases h:i < 0
 ·simp only [h,if_true];omega
 ·simp only [h,if_false];omega
theorem Wp (l:List Nat) (lo hi:Option Int):Txt.slice (tx l) lo hi=tx (TQ l lo hi):=by
 have hlen:(tx l).length=l.length:=Et l;have key:Builtin.Str.strSliceIndices lo hi 1 l.length=(List.range (HT.sIx l.length l.length hi - HT.sIx l.length 0 lo)).map fun j=>HT.sIx l.length 0 lo+j:=by
  have key0:Builtin.Str.strSliceIndices lo hi 1 l.length=sliceRange ((HT.sIx l.length 0 lo:Nat):Int) ((HT.sIx l.length l.length hi:Nat):Int) 1:=by
   unfold Builtin.Str.strSliceIndices;rcases lo with _ | i<;>rcases hi with _ | j<;>simp only [show (1:Int) > 0 by decide,if_true,HT.sIx,cl,Int.natCast_zero]<;>rfl
  rw [key0];unfold sliceRange;simp only [show (1:Int) > 0 by decide,if_true];generalize HT.sIx l.length 0 lo=a;generalize HT.sIx l.length l.length hi=b;have cnt:(if (a:Int) < (b:Int) then ((b:Int) - (a:Int)+1 - 1) / 1 else 0).toNat=b - a:=by
   split<;>omega
  rw [cnt];apply List.map_congr_left;intro j _;omega
 have hle:HT.sIx l.length l.length hi<=l.length:=HT.sIx_le _ _ (Nat.le_refl _) _;have hlo:HT.sIx l.length 0 lo<=l.length:=HT.sIx_le _ _ (Nat.zero_le _) _;unfold Txt.slice;rw [hlen,key];unfold TQ;generalize HT.sIx l.length 0 lo=a at *;generalize HT.sIx l.length l.length hi=b at *;have e2:(List.map (fun j=>a+j) (List.range (b - a))).filterMap (fun i=>(tx l).cps[i]?)=(l.drop a).take (b - a):=by
  have e3:(fun i:Nat=>(tx l).cps[i]?)=fun i=>l[i]?:=by funext i;simp [tx]
  rw [e3]
  by_cases hab:a<=b
  ·exact Xp l a (b - a) (by omega)
  ·have:b - a=0:=by omega
   rw [this];simp
 split
 ·rename_i hc;simp only [List.length_map,List.length_range,Bool.and_eq_true,beq_iff_eq] at hc;have h0:a=0:=by omega
  have h1:b=l.length:=by omega
  subst h0 h1;simp
 ·rw [e2];rfl
def small (c:Nat):Prop:=97<=c/\c<=122
theorem cq (a b:List Nat):eqV (.str (tx a)) (.str (tx b))=decide (a=b):=by
 unfold eqV
 by_cases h:a=b
 ·subst h;simp
 ·rw [decide_eq_false h];have:tx a≠tx b:=fun e=>h (gb e)
  simpa using this
section
variable {X:Cx}
def gx (K:W.Frag):List V->Hp->VK->Prop:=fun xs H Q=>∃ x T t b,xs=[x,.ty T]/\TyOf K H x t/\W.kitOne K t (.type T)=some b/\Q (.bl b) H
theorem Dw (K:W.Frag) (hK:X.K=K:=by rfl):GP X (.builtin "isinstance") (gx K):=by
 subst hK;intro pins s σ H xs us Q I r h;obtain ⟨x,T,t,b,rfl,ty,e,q⟩:=h;obtain ⟨u,v,rfl,ru,rv⟩:=r.two;cases rv;exact Vx I ru ty e fun tk=>⟨.bl b,H,I.tok tk,rfl,q⟩
theorem Am.get':∀ {xs:List V} {us:List Value} {i:Nat} {u:Value},Am xs us->us[i]?=some u->∃ x,xs[i]?=some x/\RelV x u
 | _,_,_,_,.nil,e=>by simp at e
 | _,_,0,_,.cons r _,e=>by simp at e;subst e;exact ⟨_,rfl,r⟩
 | _,_,i+1,u,.cons _ t,e=>by
  obtain ⟨x,h1,h2⟩:=Am.get' (i:=i) (u:=u) t (by simpa using e);exact ⟨x,by simpa using h1,h2⟩
def lJ (K:W.Frag):List V->Hp->VK->Prop:=fun xs H Q=>∃ (p:Addr) (bs:List Bool),xs=[.ref p]/\HC K H p (bs.map V.bl)/\Q (.bl (bs.all id)) H
theorem dA {bs:List Bool} {us:List Value} (r:Am (bs.map V.bl) us) {i:Nat} {v:Value} (e:us[i]?=some v):∃ b,bs[i]?=some b/\v=.bool b:=by
 obtain ⟨x,e1,e2⟩:=r.get' e;rw [List.getElem?_map] at e1;cases q:bs[i]? with
 | none=>rw [q] at e1;cases e1
 | some b =>
  rw [q] at e1;have:V.bl b=x:=Option.some.inj e1;subst this;exact ⟨b,rfl,e2⟩
theorem Ls:∀ bs:List Bool,((List.range bs.length).all fun i=>(bs[i]?).getD true)=bs.all id
 | []=>rfl
 | b::bs=>by
  rw [List.length_cons,List.range_succ_eq_map,List.all_cons,List.all_map,List.all_cons];have ih:=Ls bs;rw [<- ih];rfl
theorem ir {h h':Heap} {o:Obj} (hk:∀ b x,b∉[h.objs.size]->(h.push o).get? b=some x->h'.get? b=some x):∀ b x,h.get? b=some x->h'.get? b=some x:=
 fun b x e=>hk b x (fun hm=>by rw [List.mem_singleton.mp hm] at e;exact Nat.lt_irrefl _ (Heap.lt_size e)) (Heap.get?_push_of_some _ e)
theorem IG (K:W.Frag) (hK:X.K=K:=by rfl) (hc:X.calm=true:=by rfl):GP X (.builtin "all") (lJ K):=by
  subst hK;intro pins s σ H xs us Q I r h;obtain ⟨p,bs,rfl,hp,q⟩:=h;obtain ⟨u,rfl,rx⟩:=vals1 r;cases rx;obtain ⟨its,rv,pl,hz⟩:=I.list hp;have hl:=pl.isList;have hlt:p < s.heap.objs.size:=by obtain ⟨_,e,_⟩:=hl;exact Heap.lt_size e
  refine call_all_walk (wpAny_pyIter_list hl ?_);refine ⟨s.heap.objs.size,[s.heap.objs.size,p],[s.heap.objs.size],its.toArray.size,_,_,fun i=>(bs[i]?).getD true,rfl,Walks.list (A:=X.A.in1) (I.ok.hd hc) _ p (Nat.ne_of_lt hlt) its.toArray,
    ⟨⟨_,Heap.get?_push_size _ rfl,rfl,rfl⟩,hl.push _⟩,fun i v s' Q' E' hP hQ=>?_,fun h' tk hk=>?_⟩
  · obtain ⟨b,e,rfl⟩:=dA rv (i:=i) (v:=v) (by simpa using hP);simp only [e,Option.getD_some] at hQ;exact wpAny_truthy_bool hQ
  · have e:((List.range its.toArray.size).all fun i=>(bs[i]?).getD true)=bs.all id:=by
      rw [List.size_toArray,<- rv.length,List.length_map];exact Ls bs
    rw [e];exact ⟨.bl _,H,I.kept (ir hk),rfl,q⟩
def eqVs:List V->List V->Bool
 | [],[]=>true
 | x::xs,y::ys=>eqV x y && eqVs xs ys
 | _,_=>false
def ku (K:W.Frag):V->Option Int->Option Int->Hp->VK->Prop:=fun x lo hi H Q=>∃ a xs,x=.ref a/\IK K H a xs/\(HT.sIx xs.length 0 lo=0/\HT.sIx xs.length xs.length hi=xs.length)/\Q (.ref a) H
theorem bJ:ae X (ku X.K):=by
 intro pins s σ H x v vl vu lo hi sl Q I rx hs pl pu h;obtain ⟨a,xs,rfl,hx,hw,q⟩:=h;cases rx;obtain ⟨its,r,ht,hz⟩:=I.tuple hx;have hlen:its.toArray.size=xs.length:=by rw [List.size_toArray];exact r.length.symm
 refine ⟨"tuple", _,PyProof.Rows.slot_tuple_getitem.lookup,ht.typeIs,?_⟩
 obtain ⟨os,hos,hcs,hds⟩:=id hs
 have hTs:s.TypeIs (.ref sl) "slice" := ⟨os,hos,hcs⟩
 unfold getItem
 try with_reducible refine wpAny_holding ?_
 first | refine wpAny_bind (wpAny_pure ?_) | skip
 refine wpAny_bind (wpAny_sequenceKey ht.typeIs (by decide) ?_)
 refine wpAny_bind (wpAny_callSpecial?_slot (name:=Str.ofString "__getitem__") ht.typeIs PyProof.Rows.slot_tuple_getitem
  (wpAny_call_entry PyProof.Rows.slot_tuple_getitem ht.typeIs entry_tuple_getitem ?_ (args_tuple_getitem _ _)))
 show wpAny _ _ (Builtin.Tuple.tupleItemsOf (.ref a) >>= _) _ _ s;refine wpAny_bind (tupleItemsOf_ ht ?_);refine wpAny_bind (wpAny_typeOf hTs ?_);rw [if_pos (by decide)];refine wpAny_bind (HT.sliceApplied_gen hs pl pu ?_);have hyes:((((HT.sIx its.toArray.size 0 lo:Nat):Int) == 0 && (1:Int) == 1 && (HT.sIx its.toArray.size its.toArray.size hi - HT.sIx its.toArray.size 0 lo) == its.toArray.size)=true):=by
  rw [hlen,hw.1,hw.2];simp
 show wpAny _ _ (if (((HT.sIx its.toArray.size 0 lo:Nat):Int) == 0 && (1:Int) == 1 && (HT.sIx its.toArray.size its.toArray.size hi - HT.sIx its.toArray.size 0 lo) == its.toArray.size)=true then _ else _) _ _ s;rw [if_pos hyes];have fin:EP X pins σ Q (.ref a) s:=⟨.ref a,H,I,rfl,q⟩;refine wpAny_bind (m:=Builtin.Tuple.tupleIsExact (Value.ref a)) ?_;unfold Builtin.Tuple.tupleIsExact;refine wpAny_bind (wpAny_typeOf ht.typeIs (wpAny_pure ?_));rw [if_pos (by decide)];exact wpAny_bind (wpAny_rule (wpAny_pure ⟨_,rfl,wpAny_pure fin⟩))
end
end L2
namespace L2
open PySem PySem.Spec PyProof.Rows PySem.SeqAt
theorem NJ (l:Addr) (items:Array Value) (n:Nat) (dd:Option Addr) (sl:Array (Option Value)) (x:Value) (e:Value->Bool) (j:Nat) (hj:j < items.size) 
    (hit:e items[j]=true) (hno:∀ m (hm:m < items.size),m < j->e items[m]=false) :
    Meets (Builtin.«tuple.index» ⟨[.ref l,x],[]⟩)
      (fun A R s=>s.heap.get? l=some { cls:=.type "tuple", dict:=dd,data:=.seq items n,slots:=sl }/\(∀ y,y∈items->EqAt A.in1 s y x (e y))/\R (.ok (.ret (.int j s.toks))) { s with toks:=s.toks+1 }):=
  .of_wp fun prog w A R s h=>by
    obtain ⟨hp,g,d,tk,os⟩:=s;obtain ⟨hl,he,h⟩:=h;have f2:=AutoSeq1.sub_tuple_tuple
    wp_walk using wpAny_loadPart' hl
    let f:Nat->(Option Fin×Unit)->Sem (ForInStep (Option Fin×Unit)):=fun i __s =>
            match items[i]? with
            | some y=>do
              let __do_lift <- eqBool y x
              if __do_lift=true then do
                  let __do_lift <- retInt ↑i
                  pure (ForInStep.done (some __do_lift,()))
                else pure (ForInStep.yield (none,()))
            | x=>pure (ForInStep.yield (none,()))
    have key:wpAny (model prog w) A.in1 (forIn [:min items.size items.size] ((none,()):Option Fin×Unit) f) (fun a s' =>
      wpAny (model prog w) A.in1
        (match a.fst with
        | some r=>pure r
        | none=>do
          rule "tuple.index.not-found"
          raiseErrorWords "ValueError" "tuple.index(x): x not in tuple")
        (fun fin s'=>∃ v,fin=Fin.done (Flow.ret v)/\R (Except.ok (Flow.ret v)) s')
        (fun e s'=>R (Except.error e) s') s') (fun e s'=>R (Except.error e) s') { heap:=hp,gens:=g,drawn:=d,toks:=tk,os:=os }:=by
      rw [Std.Legacy.Range.forIn_eq_forIn_range'];simp only [Std.Legacy.Range.size,Nat.sub_zero,Nat.add_sub_cancel,Nat.div_one,Nat.min_self];refine wpAny_forIn_list _ (fun rest b s'=>b=(none,())/\s'=⟨hp,g,d,tk,os⟩/\∃ i,rest=List.range' i (items.size - i)/\i<=j) _ ?_ ?_ _ _ ⟨rfl,rfl,0,by simp,Nat.zero_le _⟩
      · rintro y rest b s' ⟨hb,rfl,i,hr,hi⟩;have hlt:i < items.size:=by omega
        obtain ⟨hy,hrest⟩:y=i/\rest=List.range' (i+1) (items.size - (i+1)):=by
          have e:items.size - i=(items.size - (i+1))+1:=by omega
          rw [e,List.range'_succ] at hr;injection hr with h1 h2
          exact ⟨h1,h2⟩
        subst hy;show wpAny _ _ (match items[y]? with
            | some z=>do
              let __do_lift <- eqBool z x
              if __do_lift=true then do
                  let __do_lift <- retInt ↑y
                  pure (ForInStep.done (some __do_lift,()))
                else pure (ForInStep.yield (none,()))
            | x=>pure (ForInStep.yield (none,()))) _ _ _
        rw [Array.getElem?_eq_getElem hlt];refine wpAny_bind (he _ (Array.getElem_mem hlt) prog w _ _ ?_)
        by_cases hyj:y=j
        · subst hyj;rw [hit]
          wp_walk
          exact ⟨_,rfl,h⟩
        · rw [hno y hlt (by omega)]
          wp_walk
          exact ⟨rfl,rfl,y+1,hrest,by omega⟩
      · rintro b s' ⟨hb,rfl,i,hr,hi⟩;have:(List.range' i (items.size - i)).length=0:=by rw [<- hr];rfl
        rw [List.length_range'] at this;omega
    refine cast ?_ key;congr 1;funext a s';obtain ⟨a1,a2⟩:=a;cases a1 with
    | none=>rfl
    | some r=>rfl
section
variable {X:Cx}
def pY (r:V->List V->Hp->VK->Prop) (to:TE) (t:TA):TE:=fun σ H Q=>to σ H fun x H1=>(∃ p xs,x=.ref p/\H1 p=some (.tup xs))/\t σ H1 fun xs H2=>r x xs H2 Q
theorem lU {o e:Expr} {es:List Expr} {to:TE} {t:TA} {name:Str} {apos cpos:Pos} {id:String} {r:V->List V->Hp->VK->Prop} (pa:PlainAttrs "tuple") (slot:Slot "tuple" name id) (hty:typeOf (.builtin id)=pure (.type "method_descriptor")) (hm:ah X id r) (ho:PE X o to) (ha:PA X (e::es) t)
    (hbase:attributeBase o name X.env (eval o X.env)=eval o X.env:=by rfl)
    (hfew:((backTo cpos (starEach (e::es) X.env)).all (fun x=>!x.1) && (backToKw cpos (keywordEach [] X.env)).all (fun x=>x.1.isSome)
      && decide ((e::es).length+([]:List Keyword).length+(if ([]:List Keyword).isEmpty then 0 else 1) < 30))=true:=by rfl)
    (hline:(apos.endLine == cpos.line)=true:=by rfl) (hs:starEach (e::es) X.env=(false,eval e X.env)::starEach es X.env:=by rfl) (hplain:(backTo cpos (starEach es X.env)).any (·.1)=false:=by rfl) :
    PE X (.Call (.Attribute o name apos) (e::es) [] cpos) (pY r to t):=by
  intro pins s σ H Q I h;refine wpAny_Call_method_late hbase hfew hline rfl (CQ (ho pins s σ H _ I h) fun v s1 ⟨x,H1,I1,r1,ty,q1⟩=>?_);obtain ⟨p,xs,rfl,hp⟩:=ty;cases r1;obtain ⟨_,its,_,ob,h1,hc,hd,_⟩:=I1.hok p _ hp
  refine ⟨"tuple", id,pa,slot,hty,⟨ob,h1,hc⟩,fun a e=>by cases e;exact ⟨ob,h1,hd⟩,?_⟩
  have hA:=ha cpos pins s1 σ H1 _ I1 q1;rw [hs] at hA ⊢;refine Calls.callWith_builtin (by show (false || (backTo cpos (starEach es X.env)).any (·.1))=false;rw [hplain]<;>rfl) (Calls.evalArgs_plain ?_);exact CQ hA fun us s2 ⟨vs,H2,I2,r2,q2⟩=>hm pins s2 σ H2 (.ref p) vs (.ref p) us Q I2 rfl r2 q2
def eM (K:W.Frag):R2:=fun x y H Q=>∃ a b ys,x=.ref a/\y=.ref b/\IK K H a []/\IK K H b ys/\Q (.ref b) H
theorem cD:FW X (binaryOp .Add) (eM X.K):=by
  intro pins s σ H x y v u Q I rx ry h;obtain ⟨a,b,ys,rfl,rfl,ha,hb,q⟩:=h;cases rx;cases ry;obtain ⟨its,r1,p1,_⟩:=I.tuple ha;obtain ⟨its2,r2,p2,_⟩:=I.tuple hb;cases r1;obtain ⟨⟨cls,dd,data,sl⟩,ho,hc,n,hd⟩:=id p1;obtain ⟨⟨cls2,dd2,data2,sl2⟩,ho2,hc2,n2,hd2⟩:=id p2;simp only at hc hd hc2 hd2;subst hc hd hc2 hd2;exact concat_meets ⟨_,ho,rfl⟩ ⟨_,ho2,rfl⟩ noFill_tuple_add seq_tuple_add PySem.F.slot_tuple_add PySem.F.entry_tuple_add (PySem.F.args_tuple_add_2 _ _)
      (tuple_addW0 a b _ its2.toArray n n2 dd dd2 sl sl2 (by simp)) ⟨ho,ho2,⟨.ref b,H,I,rfl,q⟩⟩
def Qt (K:W.Frag):R2:=fun x y H Q=>Qu K x y H Q\/eM K x y H Q
theorem BA (K:W.Frag) (h:X.K=K:=by rfl):FW X (binaryOp .Add) (Qt K):=by subst h;exact cE.or cD
theorem aX {K:W.Frag} {i j:Int} {H:Hp} {Q:VK} (q:Q (.int (i+j)) H):Qt K (.int i) (.int j) H Q:=.inl (aa q)
theorem aV {K:W.Frag} {i j:Str} {H:Hp} {Q:VK} (h:i.length+j.length<=1000000) (q:Q (.str (i++j)) H):Qt K (.str i) (.str j) H Q:=.inl (aY h q)
theorem aW {K:W.Frag} {a b:Addr} {xs ys:List V} {H:Hp} {Q:VK} (ha:H a=some (.lst xs)) (hb:H b=some (.lst ys)) (h:xs.length+ys.length<=1000000) (q:∀ p,H p=none->Q (.ref p) (upd H p (.lst (xs++ys)))):Qt K (.ref a) (.ref b) H Q:=.inl (aZ ha hb h q)
def Qr (K:W.Frag):V->Option Int->Option Int->Hp->VK->Prop:=fun x lo hi H Q=>XW K x lo hi H Q\/ku K x lo hi H Q
theorem gp (K:W.Frag) (h:X.K=K:=by rfl):ae X (Qr K):=by subst h;exact gn.or bJ
theorem bF {K:W.Frag} {z:Str} {lo hi:Option Int} {H:Hp} {Q:VK} (h:z.length<=1000000) (q:Q (.str (Txt.slice z lo hi)) H):Qr K (.str z) lo hi H Q:=.inl (bH h q)
theorem gj {K:W.Frag} {a:Addr} {xs:List V} {lo hi:Option Int} {H:Hp} {Q:VK} (h:HC K H a xs) (q:∀ p,H p=none->Q (.ref p) (upd H p (.lst (Jk xs lo hi)))):Qr K (.ref a) lo hi H Q:=.inl (XH h q)
theorem bG {K:W.Frag} {a:Addr} {xs:List V} {lo hi:Option Int} {H:Hp} {Q:VK} (h:H a=some (.lst xs)) (q:∀ p,H p=none->Q (.ref p) (upd H p (.lst (Jk xs lo hi)))):Qr K (.ref a) lo hi H Q:=.inl (bI h q)
def XU:V->List V->Hp->VK->Prop:=fun x vs H Q=>∃ l,x=.str (tx l)/\vs=[]/\(∀ c∈l,c < 128)/\l.length<=1000000/\Q (.str (tx (l.map up1))) H
theorem YL:kS X "str.upper" XU:=by
 intro pins s σ H x vs v us Q I rx rv h;obtain ⟨l,rfl,rfl,hA,hz,q⟩:=h;obtain ⟨t,rfl⟩:=rx;cases rv.zero;have e:Txt.upper (tx l)=tx (l.map up1):=by
  rw [upper_ascii (by rw [Ku];exact hA)];simp [tx]
 refine SC.upper (by rw [e,Et,List.length_map];exact decide_eq_false (by have:sizeLine=16777216:=sizeLine_eq;omega)) ⟨.str (tx (l.map up1)),H,I.tok _,⟨_,by rw [e]⟩,q⟩
end
end L2
namespace L2
open PySem PySem.Spec PyProof.Rows
section
end
section
end
end L2
namespace L2
open PySem PySem.Spec PyProof.Rows PySem.SeqAt
inductive D where
 | fl (v:V)
 | tup (ds:List D)
 | lst (ds:List D)
mutual
noncomputable def eqD:D->D->Bool
 | .fl a,.fl b=>eqV a b
 | .tup a,.tup b=>eqDs a b
 | .lst a,.lst b=>eqDs a b
 | _,_=>false
noncomputable def eqDs:List D->List D->Bool
 | [],[]=>true
 | x::xs,y::ys=>eqD x y && eqDs xs ys
 | _,_=>false
end
mutual
noncomputable def D.dep:D->Nat
 | .fl _=>0
 | .tup ds=>depL ds+1
 | .lst ds=>depL ds+1
noncomputable def depL:List D->Nat
 | []=>0
 | d::ds=>max d.dep (depL ds)
end
mutual
noncomputable def Is (H:Hp):V->D->Prop
 | x,.fl v=>x=v/\Jd v=true
 | x,.tup ds=>∃ a xs,x=.ref a/\H a=some (.tup xs)/\IsL H xs ds
 | x,.lst ds=>∃ a xs,x=.ref a/\H a=some (.lst xs)/\IsL H xs ds
noncomputable def IsL (H:Hp):List V->List D->Prop
 | [],[]=>True
 | x::xs,d::ds=>Is H x d/\IsL H xs ds
 | _,_=>False
end
theorem IsL.inv {H:Hp} {x:V} {xs:List V} {es:List D} (h:IsL H (x::xs) es):∃ d ds,es=d::ds/\Is H x d/\IsL H xs ds:=by
 cases es with
 | nil=>unfold IsL at h;exact h.elim
 | cons d ds=>unfold IsL at h;exact ⟨d,ds,rfl,h.1,h.2⟩
theorem IsL.length {H:Hp}:∀ {xs:List V} {ds:List D},IsL H xs ds->xs.length=ds.length
 | [],[],_=>rfl
 | [],_::_,h=>by unfold IsL at h;exact h.elim
 | _::_,[],h=>by unfold IsL at h;exact h.elim
 | x::xs,d::ds,h=>by unfold IsL at h;rw [List.length_cons,List.length_cons,IsL.length h.2]
mutual
theorem Is.inj {H:Hp}:∀ {d e:D} {x:V},Is H x d->Is H x e->d=e
 | .fl v,e,x,h,k=>by
  unfold Is at h;obtain ⟨rfl,hf⟩:=h;cases e with
  | fl u=>unfold Is at k;rw [k.1]
  | tup es=>unfold Is at k;obtain ⟨a,xs,rfl,_⟩:=k;cases hf
  | lst es=>unfold Is at k;obtain ⟨a,xs,rfl,_⟩:=k;cases hf
 | .tup ds,e,x,h,k=>by
  unfold Is at h;obtain ⟨a,xs,rfl,h1,h2⟩:=h;cases e with
  | fl u=>unfold Is at k;obtain ⟨k1,k2⟩:=k;rw [<- k1] at k2;cases k2
  | tup es =>
   unfold Is at k;obtain ⟨b,ys,e,k1,k2⟩:=k;cases e;rw [h1] at k1;cases k1;rw [IsL.inj h2 k2]
  | lst es=>unfold Is at k;obtain ⟨b,ys,e,k1,k2⟩:=k;cases e;rw [h1] at k1;cases k1
 | .lst ds,e,x,h,k=>by
  unfold Is at h;obtain ⟨a,xs,rfl,h1,h2⟩:=h;cases e with
  | fl u=>unfold Is at k;obtain ⟨k1,k2⟩:=k;rw [<- k1] at k2;cases k2
  | lst es =>
   unfold Is at k;obtain ⟨b,ys,e,k1,k2⟩:=k;cases e;rw [h1] at k1;cases k1;rw [IsL.inj h2 k2]
  | tup es=>unfold Is at k;obtain ⟨b,ys,e,k1,k2⟩:=k;cases e;rw [h1] at k1;cases k1
theorem IsL.inj {H:Hp}:∀ {ds es:List D} {xs:List V},IsL H xs ds->IsL H xs es->ds=es
 | [],es,[],h,k=>by
  cases es with
  | nil=>rfl
  | cons e es=>unfold IsL at k;exact k.elim
 | [],_,_::_,h,_=>by unfold IsL at h;exact h.elim
 | _::_,_,[],h,_=>by unfold IsL at h;exact h.elim
 | d::ds,es,x::xs,h,k=>by
  unfold IsL at h;obtain ⟨e,es',rfl,k1,k2⟩:=k.inv;rw [Is.inj h.1 k1,IsL.inj h.2 k2]
end
theorem eqV_refl {v:V} (h:Jd v=true):eqV v v=true:=by
 cases v<;>first | rfl | (simp [eqV];done) | cases h
mutual
theorem eqD_refl {H:Hp}:∀ {d:D} {x:V},Is H x d->eqD d d=true
 | .fl v,x,h=>by unfold Is at h;unfold eqD;exact eqV_refl h.2
 | .tup ds,x,h=>by unfold Is at h;obtain ⟨_,_,_,_,h2⟩:=h;unfold eqD;exact eqDs_refl h2
 | .lst ds,x,h=>by unfold Is at h;obtain ⟨_,_,_,_,h2⟩:=h;unfold eqD;exact eqDs_refl h2
theorem eqDs_refl {H:Hp}:∀ {ds:List D} {xs:List V},IsL H xs ds->eqDs ds ds=true
 | [],_,_=>by unfold eqDs;rfl
 | _::_,[],h=>by unfold IsL at h;exact h.elim
 | d::ds,x::xs,h=>by
  unfold IsL at h;unfold eqDs;rw [eqD_refl h.1,eqDs_refl h.2];rfl
end
section
variable {X:Cx} {pins:List (Addr×Obj)} {σ:St} {H:Hp} {s:Shared}
def eAt (ds es:List D) (i:Nat):Bool:=match ds[i]?,es[i]? with | some a,some b=>eqD a b | _,_=>true
theorem eAt_of {ds es:List D} {i:Nat} {a b:D} (h1:ds[i]?=some a) (h2:es[i]?=some b):eAt ds es i=eqD a b:=by unfold eAt;rw [h1,h2]
end
end L2
namespace L2
open PySem PySem.Spec PyProof.Rows
inductive T where
 | leaf (k:Str) (v:V)
 | op (s:Str) (m n:T)
 | many (k w:Str) (ts:List T)
 | lett (x:Str) (a b:T)
 | loop (i:Str) (n:T) (x:Str) (a b:T)
 | pick (n:T) (ts:List T)
noncomputable abbrev sD (x:Str):D:=.fl (.str x)
mutual
noncomputable def T.toD:T->D
 | .leaf k v=>.tup [sD k,.fl v]
 | .op s m n=>.tup [sD "op", sD s,m.toD,n.toD]
 | .many k w ts=>.tup [sD k,sD w,.tup (toDs ts)]
 | .lett x a b=>.tup [sD "let", sD x,a.toD,b.toD]
 | .loop i n x a b=>.tup [sD "loop", sD i,n.toD,sD x,a.toD,b.toD]
 | .pick n ts=>.tup [sD "pick", n.toD,.tup (toDs ts)]
noncomputable def toDs:List T->List D
 | []=>[]
 | t::ts=>t.toD::toDs ts
end
end L2
namespace L2
open PySem PySem.Spec PyProof.Rows PySem.SeqAt
section
end
end L2
namespace L2
open PySem PySem.Spec PyProof.Rows
section
end
section
end
section
variable {X:Cx} {pins:List (Addr×Obj)} {σ:St} {H:Hp} {s:Shared} {h':Heap}
theorem Inv.turnedL {t':Nat} {ch:List Addr} (I:Inv X pins σ H s) (k:∀ b o,b∉ch->s.heap.get? b=some o->h'.get? b=some o) (hf:∀ b∈ch,FpOk X pins H b):Inv X pins σ H { s with heap:=h',toks:=t' }:=by
 have nit:∀ b u,H b=some u->b∉ch:=fun b u e z=>by have:=(hf b z).1;rw [e] at this;cases this
 refine I.step (g':=s.gens) (d':=s.drawn) (ch:=ch) (fun b hb=>?_) (fun b o _ _ hc e _=>k b o hc e) (fun b o _ _ hc e _=>⟨o.slots,k b o hc e⟩) (fun _ _ _ _ n=>n)
  (fun b o hc e=>⟨o,k b o hc e⟩) (fun _ _ e=>e) (fun _ _ _ e=>e) (fun b ps e=>⟨#[],by rw [e];simp⟩) (fun m hm=>?_) (fun b u e=>?_) I.bare
 ·obtain ⟨f0,f1,f2,f3,f4,f5⟩:=hf b hb;exact ⟨f3,f1,f4,f5⟩
 ·obtain ⟨o,es,ep,ho,r⟩:=hm;exact ⟨o,es,ep,k _ o (fun z=>(hf _ z).2.1 rfl) ho,r⟩
 ·refine (I.hok b u e).stay (fun c v hc q=>k c v ?_ q) (fun _ q=>q) fun _ _ q=>q
  rcases hc with z | z
  ·rw [z];exact nit b u e
  ·exact nit c _ z
end
section
end
section
end
section
end
section
end
section
end
section
end
section
end
section
end
section
end
section
end
section
end
section
end
section
end
section
end
section
end
section
end
section
end
section
end
section
end
section
end
section
end
section
end
section
end
noncomputable def cs (z:Str):List Nat:=z.cps.toList
noncomputable def jn (sep:List Nat):List (List Nat)->List Nat
 | []=>[]
 | x::ys=>x++(ys.flatMap fun y=>sep++y)
theorem kX (sep:List Nat):∀ ys:List (List Nat),Txt.join (tx sep) (ys.map tx)=tx (jn sep ys):=by
 intro ys;have h:Txt.join (tx sep) (ys.map tx)=Str.join (tx sep) (ys.map tx):=by simpa using join_plain_closes (tx sep) (ys.map tx)
 rw [h];have:∀ (x:List Nat) (ys:List (List Nat)),Str.join (tx sep) ((x::ys).map tx)=tx (x++(ys.flatMap fun y=>sep++y)):=by
  intro x ys
  induction ys generalizing x with
  | nil=>simp [Str.join]
  | cons y ys ih =>
   show tx x++tx sep++Str.join (tx sep) ((y::ys).map tx)=_;rw [ih y,SL,SL];simp
 cases ys with
 | nil=>rfl
 | cons x ys=>exact this x ys
theorem gZ (ys:List (List Nat)):((ys.map tx).map (·.length)).sum=(ys.map List.length).sum:=by
 rw [List.map_map];congr 1
end L2
namespace Q
open PySem L2
inductive Dt where
 | non | bl (b:Bool) | int (i:Int) | str (x:List Nat)
 | tup (xs:List Dt) | lst (o:Bool) (xs:List Dt) | dic (o:Bool) (kvs:List (Dt×Dt)) | ref (k:Nat) | scr (ns:List Int) | ty (n:String) | mtp (ls:List (List Nat)) | dti (o:Bool) (kvs:List (List Int×Int))
 deriving Inhabited
structure G where
 Z:Addr->Prop
 μ:List Addr
noncomputable abbrev Fp:=Addr->Prop
def Bj (P Q:Fp):Prop:=∀ a,P a->Q a->False
def Lk (g:G) (H:Hp):Bool->Addr->List V->Prop
 | true,a,vs=>H a=some (.lst vs)/\¬ g.Z a
 | false,a,vs=>H a=some (.lst vs)/\g.Z a
def nS (K:W.Frag) (H:Hp) (a:Addr) (ns:List Int):Prop:=(∃ o,H a=some (.frz o (.lst (ns.map V.int)))) \/
    ∃ (o:Obj) (its:Array Value) (n:Nat),K.lookup a=some o/\o.cls=.type "list" /\ o.dict=none/\o.data=.seq its n/\its.size<=sizeLine/\Am (ns.map V.int) its.toList
theorem nS.sq {K:W.Frag} {H:Hp} {a:Addr} {ns:List Int} (h:nS K H a ns):HC K H a (ns.map V.int):=h.elim (fun h=>.inl (.inr h)) .inr
def rM (K:W.Frag) (a:Addr) (ls:List (List Nat)):Prop:=∃ (o:Obj) (its:Array Value) (n:Nat),K.lookup a=some o/\o.cls=.type "tuple" /\ o.data=.seq its n/\its.size<=sizeLine/\Am (ls.map fun l=>V.str (tx l)) its.toList
def encD (kvs:List (List Int×Int)):List (List Qa×V):=kvs.map fun p=>(p.1.map Sum.inl,V.int p.2)
mutual
noncomputable def Rep (K:W.Frag) (g:G) (H:Hp):Dt->V->Fp->Prop
 | .non,v,P=>v=.non/\∀ a,¬ P a
 | .bl b,v,P=>v=.bl b/\∀ a,¬ P a
 | .int i,v,P=>v=.int i/\∀ a,¬ P a
 | .str l,v,P=>v=.str (tx l)/\∀ a,¬ P a
 | .tup ds,v,P=>∃ a vs,v=.ref a/\H a=some (.tup vs)/\AG K g H ds vs P
 | .lst o ds,v,P=>∃ a vs P',v=.ref a/\Lk g H o a vs/\AG K g H ds vs P'/\¬ P' a/\(o=false->∀ b,¬ P' b)/\∀ b,P b↔(o=true/\b=a)\/P' b
 | .dic _ _,_,_=>False
 | .ref k,v,P=>(∃ a,g.μ[k]?=some a/\v=.ref a)/\∀ a,¬ P a
 | .scr ns,v,P=>(∃ a,v=.ref a/\nS K H a ns)/\∀ a,¬ P a
 | .ty n,v,P=>v=.ty n/\∀ a,¬ P a
 | .mtp ls,v,P=>(∃ a,v=.ref a/\rM K a ls)/\∀ a,¬ P a
 | .dti o kvs,v,P=>∃ a,v=.ref a/\H a=some (.dT (encD kvs))/\(o=true->¬ g.Z a)/\(o=false->g.Z a)/\∀ b,P b↔(o=true/\b=a)
noncomputable def AG (K:W.Frag) (g:G) (H:Hp):List Dt->List V->Fp->Prop
 | [],vs,P=>vs=[]/\∀ a,¬ P a
 | d::ds,vs,P=>∃ v r P1 P2,vs=v::r/\Rep K g H d v P1/\AG K g H ds r P2/\Bj P1 P2/\∀ a,P a↔P1 a\/P2 a
end
mutual
noncomputable def Dt.cp:Dt->Bool
 | .tup ds=>cps ds
 | .lst o ds=>!o && cps ds
 | .dti o _=>!o
 | .dic _ _=>false
 | _=>true
noncomputable def cps:List Dt->Bool
 | []=>true
 | d::ds=>d.cp && cps ds
end
mutual
noncomputable def Dt.fz:Dt->Dt
 | .tup ds=>.tup (cc ds)
 | .lst _ ds=>.lst false (cc ds)
 | .dti _ k=>.dti false k
 | d=>d
noncomputable def cc:List Dt->List Dt
 | []=>[]
 | d::ds=>d.fz::cc ds
end
def Zd (g:G) (H:Hp):Prop:=∀ a,g.Z a->H a≠none
structure Step (g:G) (P:Fp) (H:Hp) (g':G) (P':Fp) (H':Hp):Prop where
 keep:∀ b o,H b=some o->¬ P b->H' b=some o
 dom:∀ b,H' b=none->H b=none
 zm:∀ a,g.Z a->g'.Z a
 zn:∀ a,g'.Z a->g.Z a\/P a\/H a=none
 mu:∃ r,g'.μ=g.μ++r
 nw:∀ a,P' a->P a\/H a=none
 zd:Zd g H->Zd g' H'
theorem Step.refl {g:G} {P:Fp} {H:Hp}:Step g P H g P H:=⟨fun _ _ h _=>h,fun _ h=>h,fun _ h=>h,fun _ h=>.inl h,⟨[],by simp⟩,fun _ h=>.inl h,fun h=>h⟩
theorem Step.trans {g g1 g2:G} {P P1 P2:Fp} {H H1 H2:Hp} (a:Step g P H g1 P1 H1) (b:Step g1 P1 H1 g2 P2 H2):Step g P H g2 P2 H2:=by
 have old:∀ c,H1 c=none->H c=none:=a.dom;have up:∀ c,P1 c->P c\/H c=none:=a.nw;refine ⟨fun c o h n=>?_,fun c h=>a.dom c (b.dom c h),fun c h=>b.zm c (a.zm c h),fun c h=>?_,?_,fun c h=>?_,fun z=>b.zd (a.zd z)⟩
 ·refine b.keep c o (a.keep c o h n) fun z=>?_
  rcases up c z with z | z
  ·exact n z
  ·rw [h] at z;cases z
 ·rcases b.zn c h with z | z | z
  ·exact a.zn c z
  ·exact (up c z).elim (fun q=>.inr (.inl q)) fun q=>.inr (.inr q)
  ·exact .inr (.inr (old c z))
 ·obtain ⟨r1,e1⟩:=a.mu;obtain ⟨r2,e2⟩:=b.mu;exact ⟨r1++r2,by rw [e2,e1,List.append_assoc]⟩
 ·rcases b.nw c h with z | z
  ·exact up c z
  ·exact .inr (old c z)
theorem Step.sub {g g':G} {P Q P' Q':Fp} {H H':Hp} (s:Step g P H g' P' H') (h1:∀ a,P a->Q a) (h2:∀ a,Q' a->P' a):Step g Q H g' Q' H':=
 ⟨fun b o h n=>s.keep b o h fun z=>n (h1 b z),s.dom,s.zm,fun a h=>(s.zn a h).elim .inl fun z=>.inr (z.elim (fun q=>.inl (h1 a q)) .inr),s.mu,fun a h=>(s.nw a (h2 a h)).elim (fun q=>.inl (h1 a q)) .inr,s.zd⟩
theorem Step.frame {g g':G} {P P' R:Fp} {H H':Hp} (s:Step g P H g' P' H'):Step g (fun a=>P a\/R a) H g' (fun a=>P' a\/R a) H':=
 ⟨fun b o h n=>s.keep b o h fun z=>n (.inl z),s.dom,s.zm,fun a h=>(s.zn a h).elim .inl fun z=>.inr (z.elim (fun q=>.inl (.inl q)) .inr),s.mu,fun a h=>h.elim (fun q=>(s.nw a q).elim (fun z=>.inl (.inl z)) .inr) fun q=>.inl (.inr q),s.zd⟩
theorem Step.same {g:G} {P:Fp} {H H':Hp} (s:af H H'):Step g P H g P H':=
 have dm:∀ b,H' b=none->H b=none:=fun b h=>by
  cases e:H b with
  | none=>rfl
  | some o=>rw [s b o e] at h;cases h
 ⟨fun b o h _=>s b o h,dm,fun _ h=>h,fun _ h=>.inl h,⟨[],by simp⟩,fun _ h=>.inl h,fun z a h q=>z a h (dm a q)⟩
def FpOk (g:G) (H:Hp) (P:Fp):Prop:=∀ a,P a->gQ (H a)/\¬ g.Z a
section
variable {K:W.Frag} {g g':G} {H H':Hp}
theorem Ws {a:Addr} {vs:List V} {P P':Fp} (h:H a=some (.tup vs)) (s:Step g P H g' P' H') (ok:FpOk g H P):H' a=some (.tup vs):=s.keep _ _ h fun z=>by have:=(ok a z).1;rw [h] at this;exact this
theorem Lk.held {o:Bool} {a:Addr} {vs:List V} {P P':Fp} (h:Lk g H o a vs) (hn:o=true->¬ P a) (s:Step g P H g' P' H') (ok:FpOk g H P):Lk g' H' o a vs:=by
 cases o with
 | true =>
  obtain ⟨h1,h2⟩:=h;refine ⟨s.keep _ _ h1 (hn rfl),fun z=>?_⟩;rcases s.zn _ z with q | q | q
  ·exact h2 q
  ·exact hn rfl q
  ·rw [h1] at q;cases q
 | false =>
  obtain ⟨h1,h2⟩:=h;exact ⟨s.keep _ _ h1 fun z=>(ok a z).2 h2,s.zm _ h2⟩
mutual
theorem Rep.held {P P':Fp} (s:Step g P H g' P' H') (ok:FpOk g H P):∀ {d:Dt} {v:V} {R:Fp},Rep K g H d v R->Bj R P->Rep K g' H' d v R
 | .non,v,R,h,_=>by unfold Rep at h ⊢;exact h
 | .bl b,v,R,h,_=>by unfold Rep at h ⊢;exact h
 | .int i,v,R,h,_=>by unfold Rep at h ⊢;exact h
 | .str l,v,R,h,_=>by unfold Rep at h ⊢;exact h
 | .ty n,v,R,h,_=>by unfold Rep at h ⊢;exact h
 | .mtp n,v,R,h,_=>by unfold Rep at h ⊢;exact h
 | .dti o n,v,R,h,d=>by
  unfold Rep at h ⊢;obtain ⟨a,e,h1,h2,h3,h4⟩:=h;have hn:¬ P a:=fun z=>by
   cases o with
   | true=>exact d a ((h4 a).mpr ⟨rfl,rfl⟩) z
   | false=>exact (ok a z).2 (h3 rfl)
  refine ⟨a,e,s.keep _ _ h1 hn,fun ho z=>?_,fun ho=>s.zm _ (h3 ho),h4⟩;rcases s.zn _ z with q | q | q
  ·exact h2 ho q
  ·exact hn q
  ·rw [h1] at q;cases q
 | .tup ds,v,R,h,n=>by
  unfold Rep at h ⊢;obtain ⟨a,vs,e,h1,h2⟩:=h;exact ⟨a,vs,e,Ws h1 s ok,AG.held s ok h2 n⟩
 | .lst o ds,v,R,h,n=>by
  unfold Rep at h ⊢;obtain ⟨a,vs,R',e,h1,h2,h3,h4,h5⟩:=h;exact ⟨a,vs,R',e,h1.held (fun z q=>n a ((h5 a).mpr (.inl ⟨z,rfl⟩)) q) s ok,AG.held s ok h2 fun b q z=>n b ((h5 b).mpr (.inr q)) z,h3,h4,h5⟩
 | .dic o kvs,v,R,h,_=>by unfold Rep at h;exact h.elim
 | .ref k,v,R,h,_=>by
  unfold Rep at h ⊢;obtain ⟨⟨a,h1,h2⟩,h3⟩:=h;obtain ⟨r,e⟩:=s.mu;refine ⟨⟨a,?_,h2⟩,h3⟩;rw [e,List.getElem?_append_left (List.getElem?_eq_some_iff.mp h1).1];exact h1
 | .scr ns,v,R,h,_=>by
  unfold Rep at h ⊢;obtain ⟨⟨a,h1,h2⟩,h3⟩:=h;refine ⟨⟨a,h1,?_⟩,h3⟩;rcases h2 with ⟨o,h2⟩ | h2
  ·exact .inl ⟨o,s.keep _ _ h2 fun z=>by have:=(ok a z).1;rw [h2] at this;exact this⟩
  ·exact .inr h2
theorem AG.held {P P':Fp} (s:Step g P H g' P' H') (ok:FpOk g H P):∀ {ds:List Dt} {vs:List V} {R:Fp},AG K g H ds vs R->Bj R P->AG K g' H' ds vs R
 | [],vs,R,h,_=>by unfold AG at h ⊢;exact h
 | d::ds,vs,R,h,n=>by
  unfold AG at h ⊢;obtain ⟨v,r,P1,P2,e,h1,h2,h3,h4⟩:=h;exact ⟨v,r,P1,P2,e,Rep.held s ok h1 fun a q z=>n a ((h4 a).mpr (.inl q)) z,AG.held s ok h2 fun a q z=>n a ((h4 a).mpr (.inr q)) z,h3,h4⟩
end
mutual
theorem Rep.fpOk:∀ {d:Dt} {v:V} {R:Fp},Rep K g H d v R->FpOk g H R
 | .non,v,R,h,a,q=>by unfold Rep at h;exact (h.2 a q).elim
 | .bl b,v,R,h,a,q=>by unfold Rep at h;exact (h.2 a q).elim
 | .int i,v,R,h,a,q=>by unfold Rep at h;exact (h.2 a q).elim
 | .str l,v,R,h,a,q=>by unfold Rep at h;exact (h.2 a q).elim
 | .ty n,v,R,h,a,q=>by unfold Rep at h;exact (h.2 a q).elim
 | .mtp n,v,R,h,a,q=>by unfold Rep at h;exact (h.2 a q).elim
 | .dti o n,v,R,h,a,q=>by
  unfold Rep at h;obtain ⟨b,e,h1,h2,h3,h4⟩:=h;obtain ⟨ho,rfl⟩:=(h4 a).mp q;exact ⟨by rw [h1];trivial,h2 ho⟩
 | .tup ds,v,R,h,a,q=>by
  unfold Rep at h;obtain ⟨_,vs,e,h1,h2⟩:=h;exact AG.fpOk h2 a q
 | .lst o ds,v,R,h,a,q=>by
  unfold Rep at h;obtain ⟨b,vs,R',e,h1,h2,h3,h4,h5⟩:=h;rcases (h5 a).mp q with ⟨z,rfl⟩ | z
  ·subst z;exact ⟨by rw [h1.1];trivial,h1.2⟩
  ·exact AG.fpOk h2 a z
 | .dic o kvs,v,R,h,a,q=>by unfold Rep at h;exact h.elim
 | .ref k,v,R,h,a,q=>by unfold Rep at h;exact (h.2 a q).elim
 | .scr ns,v,R,h,a,q=>by unfold Rep at h;exact (h.2 a q).elim
theorem AG.fpOk:∀ {ds:List Dt} {vs:List V} {R:Fp},AG K g H ds vs R->FpOk g H R
 | [],vs,R,h,a,q=>by unfold AG at h;exact (h.2 a q).elim
 | d::ds,vs,R,h,a,q=>by
  unfold AG at h;obtain ⟨v,r,P1,P2,e,h1,h2,h3,h4⟩:=h;rcases (h4 a).mp q with z | z
  ·exact Rep.fpOk h1 a z
  ·exact AG.fpOk h2 a z
end
mutual
theorem Rep.none_of_cp:∀ {d:Dt} {v:V} {R:Fp},Rep K g H d v R->d.cp=true->∀ a,¬ R a
 | .non,v,R,h,_=>by unfold Rep at h;exact h.2
 | .bl b,v,R,h,_=>by unfold Rep at h;exact h.2
 | .int i,v,R,h,_=>by unfold Rep at h;exact h.2
 | .str l,v,R,h,_=>by unfold Rep at h;exact h.2
 | .ty n,v,R,h,_=>by unfold Rep at h;exact h.2
 | .mtp n,v,R,h,_=>by unfold Rep at h;exact h.2
 | .dti o n,v,R,h,c=>by
  unfold Rep at h;unfold Dt.cp at c;obtain ⟨b,e,h1,h2,h3,h4⟩:=h;intro a q;rw [((h4 a).mp q).1] at c;cases c
 | .tup ds,v,R,h,c=>by
  unfold Rep at h;unfold Dt.cp at c;obtain ⟨_,vs,e,h1,h2⟩:=h;exact AG.none_of_cp h2 c
 | .lst o ds,v,R,h,c=>by
  unfold Rep at h;unfold Dt.cp at c;obtain ⟨b,vs,R',e,h1,h2,h3,h4,h5⟩:=h;simp only [Bool.and_eq_true,Bool.not_eq_true'] at c;intro a q;rcases (h5 a).mp q with ⟨z,rfl⟩ | z
  ·rw [c.1] at z;cases z
  ·exact h4 c.1 a z
 | .dic o kvs,v,R,h,c=>by unfold Rep at h;exact h.elim
 | .ref k,v,R,h,_=>by unfold Rep at h;exact h.2
 | .scr ns,v,R,h,_=>by unfold Rep at h;exact h.2
theorem AG.none_of_cp:∀ {ds:List Dt} {vs:List V} {R:Fp},AG K g H ds vs R->cps ds=true->∀ a,¬ R a
 | [],vs,R,h,_=>by unfold AG at h;exact h.2
 | d::ds,vs,R,h,c=>by
  unfold AG at h;unfold cps at c;rw [Bool.and_eq_true] at c;obtain ⟨v,r,P1,P2,e,h1,h2,h3,h4⟩:=h;intro a q;rcases (h4 a).mp q with z | z
  ·exact Rep.none_of_cp h1 c.1 a z
  ·exact AG.none_of_cp h2 c.2 a z
end
def G.add (g:G) (P:Fp):G:={ g with Z:=fun a=>g.Z a\/P a }
def BS:Fp:=fun _=>False
mutual
theorem Rep.freeze {P:Fp}:∀ {d:Dt} {v:V} {R:Fp},Rep K g H d v R->(∀ a,R a->P a)->(∀ a,P a->gQ (H a))->Rep K (g.add P) H d.fz v BS
 | .non,v,R,h,_,_=>by unfold Rep at h;unfold Dt.fz Rep;exact ⟨h.1,fun _ z=>z⟩
 | .bl b,v,R,h,_,_=>by unfold Rep at h;unfold Dt.fz Rep;exact ⟨h.1,fun _ z=>z⟩
 | .int i,v,R,h,_,_=>by unfold Rep at h;unfold Dt.fz Rep;exact ⟨h.1,fun _ z=>z⟩
 | .str l,v,R,h,_,_=>by unfold Rep at h;unfold Dt.fz Rep;exact ⟨h.1,fun _ z=>z⟩
 | .ty n,v,R,h,_,_=>by unfold Rep at h;unfold Dt.fz Rep;exact ⟨h.1,fun _ z=>z⟩
 | .mtp n,v,R,h,_,_=>by unfold Rep at h;unfold Dt.fz Rep;exact ⟨h.1,fun _ z=>z⟩
 | .dti o n,v,R,h,s,_=>by
  unfold Rep at h;unfold Dt.fz Rep;obtain ⟨a,e,h1,h2,h3,h4⟩:=h;refine ⟨a,e,h1,(fun z=>by cases z),fun _=>?_,fun b=>⟨fun z=>z.elim,fun z=>by cases z.1⟩⟩;cases o with
  | true=>exact .inr (s a ((h4 a).mpr ⟨rfl,rfl⟩))
  | false=>exact .inl (h3 rfl)
 | .tup ds,v,R,h,s,m=>by
  unfold Rep at h;unfold Dt.fz Rep;obtain ⟨a,vs,e,h1,h2⟩:=h;exact ⟨a,vs,e,h1,AG.freeze h2 s m⟩
 | .lst o ds,v,R,h,s,m=>by
  unfold Rep at h;unfold Dt.fz Rep;obtain ⟨a,vs,R',e,h1,h2,h3,h4,h5⟩:=h;refine ⟨a,vs,BS,e,?_,AG.freeze h2 (fun b q=>s b ((h5 b).mpr (.inr q))) m,fun z=>z,fun _ _ z=>z,fun b=>⟨fun z=>z.elim,fun z=>z.elim (fun q=>by cases q.1) id⟩⟩;cases o with
  | true=>exact ⟨h1.1,.inr (s a ((h5 a).mpr (.inl ⟨rfl,rfl⟩)))⟩
  | false=>exact ⟨h1.1,.inl h1.2⟩
 | .dic o kvs,v,R,h,_,_=>by unfold Rep at h;exact h.elim
 | .ref k,v,R,h,_,_=>by unfold Rep at h;unfold Dt.fz Rep;exact ⟨h.1,fun _ z=>z⟩
 | .scr ns,v,R,h,_,_=>by unfold Rep at h;unfold Dt.fz Rep;exact ⟨h.1,fun _ z=>z⟩
theorem AG.freeze {P:Fp}:∀ {ds:List Dt} {vs:List V} {R:Fp},AG K g H ds vs R->(∀ a,R a->P a)->(∀ a,P a->gQ (H a))->AG K (g.add P) H (cc ds) vs BS
 | [],vs,R,h,_,_=>by unfold AG at h;unfold cc AG;exact ⟨h.1,fun _ z=>z⟩
 | d::ds,vs,R,h,s,m=>by
  unfold AG at h;unfold cc AG;obtain ⟨v,r,P1,P2,e,h1,h2,h3,h4⟩:=h;exact ⟨v,r,BS,BS,e,Rep.freeze h1 (fun a q=>s a ((h4 a).mpr (.inl q))) m,AG.freeze h2 (fun a q=>s a ((h4 a).mpr (.inr q))) m,fun _ z=>z.elim,fun a=>⟨fun z=>z.elim,fun z=>z.elim id id⟩⟩
end
theorem Step.freeze {P:Fp} (ok:FpOk g H P):Step g P H (g.add P) BS H:=
 ⟨fun _ _ h _=>h,fun _ h=>h,fun _ h=>.inl h,fun a h=>h.elim .inl fun q=>.inr (.inl q),⟨[],by show g.μ=_;simp⟩,fun _ h=>h.elim,fun z a h q=>h.elim (fun h=>z a h q) fun h=>by have:=(ok a h).1;rw [q] at this;exact this⟩
theorem AG.nil:AG K g H [] [] BS:=by unfold AG;exact ⟨rfl,fun _ z=>z⟩
theorem AG.cons {d:Dt} {v:V} {ds:List Dt} {vs:List V} {P1 P2:Fp} (h1:Rep K g H d v P1) (h2:AG K g H ds vs P2) (n:Bj P1 P2):AG K g H (d::ds) (v::vs) fun a=>P1 a\/P2 a:=by
 unfold AG;exact ⟨v,vs,P1,P2,rfl,h1,h2,n,fun _=>Iff.rfl⟩
theorem AG.len:∀ {ds:List Dt} {vs:List V} {R:Fp},AG K g H ds vs R->ds.length=vs.length
 | [],vs,R,h=>by unfold AG at h;rw [h.1];rfl
 | d::ds,vs,R,h=>by
  unfold AG at h;obtain ⟨v,r,P1,P2,rfl,h1,h2,_⟩:=h;simp [h2.len]
theorem AG.get:∀ {ds:List Dt} {vs:List V} {R:Fp} {i:Nat} {d:Dt},AG K g H ds vs R->ds[i]?=some d->∃ v P,vs[i]?=some v/\Rep K g H d v P/\∀ a,P a->R a
 | [],_,_,_,_,_,e=>by simp at e
 | d::ds,vs,R,i,d',h,e=>by
  unfold AG at h;obtain ⟨v,r,P1,P2,rfl,h1,h2,_,h4⟩:=h;cases i with
  | zero=>simp at e;subst e;exact ⟨v,P1,rfl,h1,fun a q=>(h4 a).mpr (.inl q)⟩
  | succ i =>
   obtain ⟨v',P,e',h',s⟩:=h2.get (i:=i) (by simpa using e);exact ⟨v',P,by simpa using e',h',fun a q=>(h4 a).mpr (.inr (s a q))⟩
theorem Rep.iff {d:Dt} {v:V} {P Q:Fp} (h:Rep K g H d v P) (e:∀ a,Q a↔P a):Rep K g H d v Q:=by
 have:Q=P:=funext fun a=>propext (e a)
 rw [this];exact h
theorem AG.iff {d:List Dt} {v:List V} {P Q:Fp} (h:AG K g H d v P) (e:∀ a,Q a↔P a):AG K g H d v Q:=by
 have:Q=P:=funext fun a=>propext (e a)
 rw [this];exact h
theorem AG.app:∀ {ds es:List Dt} {vs us:List V} {P Q:Fp},AG K g H ds vs P->AG K g H es us Q->Bj P Q->AG K g H (ds++es) (vs++us) fun a=>P a\/Q a
 | [],es,vs,us,P,Q,h,k,_=>by
  unfold AG at h;obtain ⟨rfl,n⟩:=h;exact k.iff fun a=>⟨fun z=>z.elim (fun q=>(n a q).elim) id,.inr⟩
 | d::ds,es,vs,us,P,Q,h,k,n=>by
  unfold AG at h;obtain ⟨v,r,P1,P2,rfl,h1,h2,h3,h4⟩:=h;have t:=AG.app h2 k fun a q z=>n a ((h4 a).mpr (.inr q)) z
  refine (AG.cons h1 t fun a q z=>z.elim (fun z=>h3 a q z) fun z=>n a ((h4 a).mpr (.inl q)) z).iff fun a=>?_
  rw [h4 a];exact ⟨fun z=>z.elim (fun z=>z.elim .inl fun q=>.inr (.inl q)) fun q=>.inr (.inr q),fun z=>z.elim (fun q=>.inl (.inl q)) fun z=>z.elim (fun q=>.inl (.inr q)) .inr⟩
theorem AG.cp {ds:List Dt} {vs:List V} {R:Fp} (h:AG K g H ds vs R) (c:cps ds=true):AG K g H ds vs BS:=h.iff fun a=>⟨fun z=>z.elim,fun z=>(h.none_of_cp c a z).elim⟩
theorem Rep.cp {d:Dt} {v:V} {R:Fp} (h:Rep K g H d v R) (c:d.cp=true):Rep K g H d v BS:=h.iff fun a=>⟨fun z=>z.elim,fun z=>(h.none_of_cp c a z).elim⟩
end
structure Ob where
 c:Nat
 fs:List (Str×Dt)
structure M where
 ρ:List (Option Dt)
 S:List Ob
noncomputable abbrev Ev (α:Type):=M->Option (α×M)
noncomputable def M.set (m:M) (i:Nat) (d:Option Dt):M:={ m with ρ:=m.ρ.set i d }
def gO (_:W.Frag) (_:G) (_:Hp) (S:List Ob) (P:Fp):Prop:=S=[]/\∀ a,¬ P a
section
variable (K:W.Frag) (g:G) (H:Hp)
def AX:List (Option Dt)->St->Fp->Prop
 | [],σ,P=>σ=[]/\∀ a,¬ P a
 | none::ρ,σ,P=>∃ x r,σ=x::r/\AX ρ r P
 | some d::ρ,σ,P=>∃ v r P1 P2,σ=some v::r/\Rep K g H d v P1/\AX ρ r P2/\Bj P1 P2/\∀ a,P a↔P1 a\/P2 a
def Rel (m:M) (σ:St) (P:Fp):Prop:=Zd g H/\∃ P1 P2,AX K g H m.ρ σ P1/\gO K g H m.S P2/\Bj P1 P2/\∀ a,P a↔P1 a\/P2 a
end
section
variable {K:W.Frag} {g g':G} {H H':Hp}
theorem AX.iff {ρ:List (Option Dt)} {σ:St} {P Q:Fp} (h:AX K g H ρ σ P) (e:∀ a,Q a↔P a):AX K g H ρ σ Q:=by
 have:Q=P:=funext fun a=>propext (e a)
 rw [this];exact h
theorem AX.len:∀ {ρ:List (Option Dt)} {σ:St} {P:Fp},AX K g H ρ σ P->ρ.length=σ.length
 | [],σ,P,h=>by unfold AX at h;rw [h.1];rfl
 | none::ρ,σ,P,h=>by unfold AX at h;obtain ⟨x,r,rfl,h⟩:=h;simp [h.len]
 | some d::ρ,σ,P,h=>by unfold AX at h;obtain ⟨v,r,P1,P2,rfl,h1,h2,_⟩:=h;simp [h2.len]
theorem AX.held {P P':Fp} (s:Step g P H g' P' H') (ok:FpOk g H P):∀ {ρ:List (Option Dt)} {σ:St} {R:Fp},AX K g H ρ σ R->Bj R P->AX K g' H' ρ σ R
 | [],σ,R,h,_=>by unfold AX at h ⊢;exact h
 | none::ρ,σ,R,h,n=>by unfold AX at h ⊢;obtain ⟨x,r,e,h⟩:=h;exact ⟨x,r,e,AX.held s ok h n⟩
 | some d::ρ,σ,R,h,n=>by
  unfold AX at h ⊢;obtain ⟨v,r,P1,P2,e,h1,h2,h3,h4⟩:=h;exact ⟨v,r,P1,P2,e,h1.held s ok fun a q z=>n a ((h4 a).mpr (.inl q)) z,AX.held s ok h2 fun a q z=>n a ((h4 a).mpr (.inr q)) z,h3,h4⟩
theorem AX.fpOk:∀ {ρ:List (Option Dt)} {σ:St} {R:Fp},AX K g H ρ σ R->FpOk g H R
 | [],σ,R,h,a,q=>by unfold AX at h;exact (h.2 a q).elim
 | none::ρ,σ,R,h,a,q=>by unfold AX at h;obtain ⟨x,r,e,h⟩:=h;exact AX.fpOk h a q
 | some d::ρ,σ,R,h,a,q=>by
  unfold AX at h;obtain ⟨v,r,P1,P2,e,h1,h2,h3,h4⟩:=h;rcases (h4 a).mp q with z | z
  ·exact h1.fpOk a z
  ·exact AX.fpOk h2 a z
theorem AX.take:∀ {ρ:List (Option Dt)} {σ:St} {P:Fp} {i:Nat} {d:Dt},AX K g H ρ σ P->ρ[i]?=some (some d) ->
    ∃ v P1 P2,σ[i]?=some (some v)/\Rep K g H d v P1/\AX K g H (ρ.set i none) σ P2/\Bj P1 P2/\∀ a,P a↔P1 a\/P2 a
  | [],_,_,_,_,_,e=>by simp at e
  | none::ρ,σ,P,i,d,h,e=>by
    unfold AX at h;obtain ⟨x,r,rfl,h⟩:=h;cases i with
    | zero=>simp at e
    | succ i =>
      obtain ⟨v,P1,P2,e1,h1,h2,h3,h4⟩:=h.take (i:=i) (by simpa using e);refine ⟨v,P1,P2,by simpa using e1,h1,?_,h3,h4⟩;show AX K g H (none::ρ.set i none) (x::r) P2;unfold AX;exact ⟨x,r,rfl,h2⟩
  | some d'::ρ,σ,P,i,d,h,e=>by
    unfold AX at h;obtain ⟨v',r,Q1,Q2,rfl,k1,k2,k3,k4⟩:=h;cases i with
    | zero =>
      simp at e;subst e;refine ⟨v',Q1,Q2,rfl,k1,?_,k3,k4⟩;show AX K g H (none::ρ) (some v'::r) Q2;unfold AX;exact ⟨_,r,rfl,k2⟩
    | succ i =>
      obtain ⟨v,P1,P2,e1,h1,h2,h3,h4⟩:=k2.take (i:=i) (by simpa using e);refine ⟨v,P1,fun a=>Q1 a\/P2 a,by simpa using e1,h1,?_,fun a q z=>z.elim (fun z=>k3 a z ((h4 a).mpr (.inl q))) fun z=>h3 a q z,fun a=>?_⟩
      · show AX K g H (some d'::ρ.set i none) (some v'::r) _;unfold AX;exact ⟨v',r,Q1,P2,rfl,k1,h2,fun a q z=>k3 a q ((h4 a).mpr (.inr z)),fun _=>Iff.rfl⟩
      · rw [k4 a,h4 a];exact ⟨fun z=>z.elim (fun q=>.inr (.inl q)) fun z=>z.elim .inl fun q=>.inr (.inr q),fun z=>z.elim (fun q=>.inr (.inl q)) fun z=>z.elim .inl fun q=>.inr (.inr q)⟩
theorem AX.put:∀ {ρ:List (Option Dt)} {σ:St} {P1 P2:Fp} {i:Nat} {d:Dt} {v:V},AX K g H ρ σ P2->ρ[i]?=some none->σ[i]?=some (some v)->Rep K g H d v P1->Bj P1 P2 ->
    AX K g H (ρ.set i (some d)) σ fun a=>P1 a\/P2 a
  | [],_,_,_,_,_,_,_,e,_,_,_=>by simp at e
  | none::ρ,σ,P1,P2,i,d,v,h,e,es,h1,n=>by
    unfold AX at h;obtain ⟨x,r,rfl,h⟩:=h;cases i with
    | zero =>
      simp at es;subst es;show AX K g H (some d::ρ) (some v::r) _;unfold AX;exact ⟨v,r,P1,P2,rfl,h1,h,n,fun _=>Iff.rfl⟩
    | succ i =>
      have:=h.put (i:=i) (by simpa using e) (by simpa using es) h1 n;show AX K g H (none::ρ.set i (some d)) (x::r) _;unfold AX;exact ⟨x,r,rfl,this⟩
  | some d'::ρ,σ,P1,P2,i,d,v,h,e,es,h1,n=>by
    unfold AX at h;obtain ⟨v',r,Q1,Q2,rfl,k1,k2,k3,k4⟩:=h;cases i with
    | zero=>simp at e
    | succ i =>
      have:=k2.put (i:=i) (by simpa using e) (by simpa using es) h1 fun a q z=>n a q ((k4 a).mpr (.inr z))
      show AX K g H (some d'::ρ.set i (some d)) (some v'::r) _;unfold AX;refine ⟨v',r,Q1,_,rfl,k1,this,fun a q z=>z.elim (fun z=>n a z ((k4 a).mpr (.inl q))) fun z=>k3 a q z,fun a=>?_⟩;show P1 a\/P2 a↔_;rw [k4 a];exact ⟨fun z=>z.elim (fun q=>.inr (.inl q)) fun z=>z.elim .inl fun q=>.inr (.inr q),fun z=>z.elim (fun q=>.inr (.inl q)) fun z=>z.elim .inl fun q=>.inr (.inr q)⟩
theorem AX.store:∀ {ρ:List (Option Dt)} {σ:St} {P:Fp} {i:Nat} (x:Option V),AX K g H ρ σ P->∃ P2,AX K g H (ρ.set i none) (σ.set i x) P2/\∀ a,P2 a->P a
 | [],σ,P,i,x,h=>by unfold AX at h;obtain ⟨rfl,n⟩:=h;exact ⟨P,by show AX K g H [] [] P;unfold AX;exact ⟨rfl,n⟩,fun _ q=>q⟩
 | none::ρ,σ,P,i,x,h=>by
  unfold AX at h;obtain ⟨y,r,rfl,h⟩:=h;cases i with
  | zero=>exact ⟨P,by show AX K g H (none::ρ) (x::r) P;unfold AX;exact ⟨x,r,rfl,h⟩,fun _ q=>q⟩
  | succ i =>
   obtain ⟨P2,h2,s⟩:=h.store (i:=i) x;exact ⟨P2,by show AX K g H (none::ρ.set i none) (y::r.set i x) P2;unfold AX;exact ⟨y,_,rfl,h2⟩,s⟩
 | some d::ρ,σ,P,i,x,h=>by
  unfold AX at h;obtain ⟨v,r,Q1,Q2,rfl,k1,k2,k3,k4⟩:=h;cases i with
  | zero=>exact ⟨Q2,by show AX K g H (none::ρ) (x::r) Q2;unfold AX;exact ⟨x,r,rfl,k2⟩,fun a q=>(k4 a).mpr (.inr q)⟩
  | succ i =>
   obtain ⟨P2,h2,s⟩:=k2.store (i:=i) x;refine ⟨fun a=>Q1 a\/P2 a,?_,fun a q=>(k4 a).mpr (q.elim .inl fun q=>.inr (s a q))⟩;show AX K g H (some d::ρ.set i none) (some v::r.set i x) _;unfold AX;exact ⟨v,_,Q1,P2,rfl,k1,h2,fun a q z=>k3 a q (s a z),fun _=>Iff.rfl⟩
theorem gO.held {P P' R:Fp} {S:List Ob} (s:Step g P H g' P' H') (ok:FpOk g H P) (h:gO K g H S R) (n:Bj R P):gO K g' H' S R:=h
theorem gO.fpOk {S:List Ob} {R:Fp} (h:gO K g H S R):FpOk g H R:=fun a q=>(h.2 a q).elim
theorem Rel.held {P P' R:Fp} {m:M} {σ:St} (s:Step g P H g' P' H') (ok:FpOk g H P) (h:Rel K g H m σ R) (n:Bj R P):Rel K g' H' m σ R:=by
 obtain ⟨zd,P1,P2,h1,h2,h3,h4⟩:=h;exact ⟨s.zd zd,P1,P2,h1.held s ok fun a q z=>n a ((h4 a).mpr (.inl q)) z,h2.held s ok fun a q z=>n a ((h4 a).mpr (.inr q)) z,h3,h4⟩
theorem Rel.fpOk {m:M} {σ:St} {R:Fp} (h:Rel K g H m σ R):FpOk g H R:=by
 obtain ⟨_,P1,P2,h1,h2,h3,h4⟩:=h;intro a q;rcases (h4 a).mp q with z | z
 ·exact h1.fpOk a z
 ·exact h2.fpOk a z
theorem Rel.len {m:M} {σ:St} {P:Fp} (h:Rel K g H m σ P):m.ρ.length=σ.length:=let ⟨_,_,_,h1,_⟩:=h;h1.len
theorem Rel.zd {m:M} {σ:St} {P:Fp} (h:Rel K g H m σ P):Zd g H:=h.1
theorem FpOk.or {P Q:Fp} (h:FpOk g H P) (k:FpOk g H Q):FpOk g H fun a=>P a\/Q a:=fun a q=>q.elim (h a) (k a)
theorem Rel.take {m:M} {σ:St} {P:Fp} {i:Nat} {d:Dt} (h:Rel K g H m σ P) (e:m.ρ[i]?=some (some d)) :
    ∃ v P1 P2,σ[i]?=some (some v)/\Rep K g H d v P1/\Rel K g H (m.set i none) σ P2/\Bj P1 P2/\∀ a,P a↔P1 a\/P2 a:=by
  obtain ⟨zd,Q1,Q2,h1,h2,h3,h4⟩:=h;obtain ⟨v,P1,P2,e1,k1,k2,k3,k4⟩:=h1.take e;refine ⟨v,P1,fun a=>P2 a\/Q2 a,e1,k1,⟨zd,P2,Q2,k2,h2,fun a q z=>h3 a ((k4 a).mpr (.inr q)) z,fun _=>Iff.rfl⟩,fun a q z=>z.elim (fun z=>k3 a q z) fun z=>h3 a ((k4 a).mpr (.inl q)) z,fun a=>?_⟩;rw [h4 a,k4 a];exact or_assoc
theorem Rel.put {m:M} {σ:St} {P1 P2:Fp} {i:Nat} {d:Dt} {v:V} (h:Rel K g H m σ P2) (e:m.ρ[i]?=some none) (es:σ[i]?=some (some v)) (h1:Rep K g H d v P1) (n:Bj P1 P2) :
    Rel K g H (m.set i (some d)) σ fun a=>P1 a\/P2 a:=by
  obtain ⟨zd,Q1,Q2,k1,k2,k3,k4⟩:=h;refine ⟨zd,_,Q2,k1.put e es h1 fun a q z=>n a q ((k4 a).mpr (.inl z)),k2,fun a q z=>q.elim (fun q=>n a q ((k4 a).mpr (.inr z))) fun q=>k3 a q z,fun a=>?_⟩;show P1 a\/P2 a↔_;rw [k4 a];exact or_assoc.symm
theorem Rel.store {m:M} {σ:St} {P:Fp} (i:Nat) (x:Option V) (h:Rel K g H m σ P):∃ P2,Rel K g H (m.set i none) (σ.set i x) P2/\∀ a,P2 a->P a:=by
 obtain ⟨zd,Q1,Q2,k1,k2,k3,k4⟩:=h;obtain ⟨P2,h2,s⟩:=k1.store (i:=i) x;exact ⟨fun a=>P2 a\/Q2 a,⟨zd,P2,Q2,h2,k2,fun a q z=>k3 a (s a q) z,fun _=>Iff.rfl⟩,fun a q=>(k4 a).mpr (q.elim (fun q=>.inl (s a q)) .inr)⟩
theorem Rel.see {m:M} {σ:St} {P:Fp} {i:Nat} {d:Dt} (h:Rel K g H m σ P) (e:m.ρ[i]?=some (some d)):∃ v P1,σ[i]?=some (some v)/\Rep K g H d v P1/\∀ a,P1 a->P a:=by
 obtain ⟨v,P1,P2,e1,k1,k2,k3,k4⟩:=h.take e;exact ⟨v,P1,e1,k1,fun a q=>(k4 a).mpr (.inl q)⟩
theorem Rel.setNew {m:M} {σ:St} {P Pv:Fp} {i:Nat} {d:Dt} {v:V} (h:Rel K g H m σ P) (hi:i < m.ρ.length) (hv:Rep K g H d v Pv) (n:Bj Pv P) :
    ∃ P2,Rel K g H (m.set i (some d)) (σ.set i (some v)) P2/\∀ a,P2 a->P a\/Pv a:=by
  obtain ⟨P2,h2,s⟩:=h.store i (some v);have hl:i < σ.length:=by rw [<- h.len];exact hi
  have:=h2.put (i:=i) (by show (m.ρ.set i none)[i]?=_;rw [List.getElem?_set_self hi]) (List.getElem?_set_self hl) hv fun a q z=>n a q (s a z)
  have e:(m.set i none).set i (some d)=m.set i (some d):=by unfold M.set;simp
  rw [e] at this;exact ⟨_,this,fun a q=>q.elim .inr fun q=>.inl (s a q)⟩
end
def tq (K:W.Frag) (f:Ev Dt):TE:=fun σ H Q=>∃ g m P,Rel K g H m σ P/\∃ d m',f m=some (d,m') /\
 ∀ g' P' Pv v H',Step g P H g' (fun a=>P' a\/Pv a) H'->Rep K g' H' d v Pv->Rel K g' H' m' σ P'->Bj P' Pv->Q v H'
structure QE (X:Cx) (e:Expr) (f:Ev Dt):Prop where
 h:PE X e (tq X.K f)
def VL (K:W.Frag) (f:Ev Bool):TT:=fun σ H Q=>∃ g m P,Rel K g H m σ P/\∃ d m',f m=some (d,m')/\∀ g' P' H',Step g P H g' P' H'->Rel K g' H' m' σ P'->Q d H'
structure QT (X:Cx) (e:Expr) (f:Ev Bool):Prop where
 h:PT X e (VL X.K f)
inductive Om where
 | ev (f:Ev Dt)
 | rf (i:Nat)
def VM (K:W.Frag):Om->TE
 | .ev f=>tq K f
 | .rf i=>NK i
def AV:List Om->Ev (List Dt)
 | [],m=>some ([],m)
 | .ev f::os,m=>do
  let (d,m1) <- f m
  let (ds,m2) <- AV os m1
  some (d::ds,m2)
 | .rf i::os,m=>do
  let _ <- (m.ρ[i]?).join
  let (ds,m1) <- AV os m
  let d <- (m1.ρ[i]?).join
  some (d::ds,m1)
def JO (K:W.Frag):List Om->TA
 | []=>kh
 | o::os=>dz (VM K o) (JO K os)
def AU (K:W.Frag) (g:G) (H:Hp) (ρ:List (Option Dt)) (σ:St):List Om->List Dt->List V->Fp->Prop
 | [],ds,vs,P=>ds=[]/\vs=[]/\∀ a,¬ P a
 | .ev _::os,ds,vs,P=>∃ d dr v vr P1 P2,ds=d::dr/\vs=v::vr/\Rep K g H d v P1/\AU K g H ρ σ os dr vr P2/\Bj P1 P2/\∀ a,P a↔P1 a\/P2 a
 | .rf i::os,ds,vs,P=>∃ d dr v vr,ds=d::dr/\vs=v::vr/\σ[i]?=some (some v)/\ρ[i]?=some (some d)/\AU K g H ρ σ os dr vr P
theorem CJ {α:Type} {o:Option (Option α)} {x:α} (h:o.join=some x):o=some (some x):=by
 cases o with
 | none=>cases h
 | some y=>cases y with | none=>cases h | some z=>cases h;rfl
theorem Ba {K:W.Frag} {σ:St}:∀ (os:List Om) {g:G} {m:M} {P:Fp} {H:Hp} {ds:List Dt} {m':M} {Q:List V->Hp->Prop},Rel K g H m σ P->AV os m=some (ds,m') ->
    (∀ g' P' Pv vs H',Step g P H g' (fun a=>P' a\/Pv a) H'->AU K g' H' m'.ρ σ os ds vs Pv->Rel K g' H' m' σ P'->Bj P' Pv->Q vs H')->JO K os σ H Q
  | [],g,m,P,H,ds,m',Q,r,e,k=>by
    simp only [AV,Option.some.injEq,Prod.mk.injEq] at e;obtain ⟨rfl,rfl⟩:=e;refine k g P BS [] H (Step.refl.sub (fun _ q=>q) fun _ q=>q.elim id False.elim) ?_ r fun _ _ z=>z
    unfold AU;exact ⟨rfl,rfl,fun _ z=>z⟩
  | .ev f::os,g,m,P,H,ds,m',Q,r,e,k=>by
    simp only [AV,Option.bind_eq_bind,Option.bind_eq_some_iff,Option.some.injEq,Prod.mk.injEq,Prod.exists] at e;obtain ⟨d,m1,e1,dr,m2,e2,rfl,rfl⟩:=e;show tq K f σ H fun x H1=>JO K os σ H1 fun xs H2=>Q (x::xs) H2
    refine ⟨g,m,P,r,d,m1,e1,fun g1 P1 Pv v H1 s1 rv r1 n1=>?_⟩;refine Ba os r1 e2 fun g2 P2 Pw vs H2 s2 rs r2 n2=>?_
    have hv2:=rv.held s2 r1.fpOk fun a q z=>n1 a z q
    have fo:=rv.fpOk;have dn:Bj Pv fun a=>P2 a\/Pw a:=fun a q z=>by
      rcases s2.nw a z with z | z
      · exact n1 a z q
      · have:=(fo a q).1;rw [z] at this;exact this
    refine k g2 P2 (fun a=>Pv a\/Pw a) (v::vs) H2 (s1.trans (s2.frame (R:=Pv)) |>.sub (fun _ q=>q) fun a q=>?_) ?_ r2 fun a q z=>?_
    · exact q.elim (fun q=>.inl (.inl q)) fun q=>q.elim .inr fun q=>.inl (.inr q)
    · unfold AU;exact ⟨d,dr,v,vs,Pv,Pw,rfl,rfl,hv2,rs,fun a q z=>dn a q (.inr z),fun _=>Iff.rfl⟩
    · exact z.elim (fun z=>dn a z (.inl q)) fun z=>n2 a q z
  | .rf i::os,g,m,P,H,ds,m',Q,r,e,k=>by
    simp only [AV,Option.bind_eq_bind,Option.bind_eq_some_iff,Option.some.injEq,Prod.mk.injEq,Prod.exists] at e;obtain ⟨d0,e0,dr,m2,e2,d,e1,rfl,rfl⟩:=e;have hv:∃ v,σ[i]?=some (some v):=let ⟨v,_,q,_⟩:=r.see (CJ e0);⟨v,q⟩;obtain ⟨v,hv⟩:=hv;show ∃ x,σ[i]?=some (some x)/\JO K os σ H fun xs H2=>Q (x::xs) H2
    refine ⟨v,hv,Ba os r e2 fun g2 P2 Pw vs H2 s2 rs r2 n2=>k g2 P2 Pw (v::vs) H2 s2 ?_ r2 n2⟩;unfold AU;exact ⟨d,dr,v,vs,rfl,rfl,hv,CJ e1,rs⟩
theorem PE.imp {X:Cx} {e:Expr} {t t':TE} (h:PE X e t) (k:∀ σ H Q,t' σ H Q->t σ H Q):PE X e t':=fun pins s σ H Q I q=>h pins s σ H Q I (k σ H Q q)
theorem PT.imp {X:Cx} {e:Expr} {t t':TT} (h:PT X e t) (k:∀ σ H Q,t' σ H Q->t σ H Q):PT X e t':=fun pins s σ H Q I q=>h pins s σ H Q I (k σ H Q q)
theorem PW.imp {X:Cx} {e:Expr} {t t':TT} (h:PW X e t) (k:∀ σ H Q,t' σ H Q->t σ H Q):PW X e t':=fun wh pins s σ H Q I q=>h wh pins s σ H Q I (k σ H Q q)
theorem PS.imp {X:Cx} {e:Stmt} {t t':TS} (h:PS X e t) (k:∀ D σ H,t' D σ H->t D σ H):PS X e t':=fun pins s σ H D I q=>h pins s σ H D I (k D σ H q)
theorem OX.imp {X:Cx} {e:List Stmt} {t t':TS} (h:OX X e t) (k:∀ D σ H,t' D σ H->t D σ H):OX X e t':=fun pins s σ H D I q=>h pins s σ H D I (k D σ H q)
def RA (K:W.Frag) (g:G) (H:Hp):List Dt->List V->Prop
 | [],vs=>vs=[]
 | d::ds,vs=>∃ v r P,vs=v::r/\Rep K g H d v P/\RA K g H ds r
def CO (K:W.Frag) (g:G) (H:Hp) (d:Dt) (v:V) (H':Hp):Prop:=af H H'/\∃ Pv,Rep K g H' d v Pv/\∀ a,Pv a->H a=none
noncomputable abbrev Pr:=List Dt->Option Dt
abbrev kE:=List V->Hp->VK->Prop
def Bc (K:W.Frag) (p:Pr) (R:kE):Prop:=∀ g H ds vs d Q,Zd g H->RA K g H ds vs->p ds=some d->(∀ v H',CO K g H d v H'->Q v H')->R vs H Q
def AB (p:Pr) (os:List Om) (m:M):Option (Dt×M):=do
 let (ds,m') <- AV os m
 let d <- p ds
 some (d,m')
section
variable {K:W.Frag} {g:G} {H H':Hp} {σ:St}
theorem AU.ra {m:M} {P:Fp} (r:Rel K g H m σ P):∀ {os:List Om} {ds:List Dt} {vs:List V} {Pv:Fp},AU K g H m.ρ σ os ds vs Pv->RA K g H ds vs
 | [],ds,vs,Pv,h=>by unfold AU at h;obtain ⟨rfl,rfl,_⟩:=h;unfold RA;rfl
 | .ev f::os,ds,vs,Pv,h=>by
  unfold AU at h;obtain ⟨d,dr,v,vr,P1,P2,rfl,rfl,h1,h2,_⟩:=h;unfold RA;exact ⟨v,vr,P1,rfl,h1,AU.ra r h2⟩
 | .rf i::os,ds,vs,Pv,h=>by
  unfold AU at h;obtain ⟨d,dr,v,vr,rfl,rfl,h1,h2,h3⟩:=h;obtain ⟨v',P1,e,k,_⟩:=r.see h2;rw [h1] at e;cases e;unfold RA;exact ⟨v,vr,P1,rfl,k,AU.ra r h3⟩
theorem CO.go {g0:G} {P0:Fp} {H0:Hp} {P Px:Fp} {m:M} {d:Dt} {v:V} (s:Step g0 P0 H0 g (fun a=>P a\/Px a) H) (r:Rel K g H m σ P) (n:CO K g H d v H') :
    ∃ Pv,Step g0 P0 H0 g (fun a=>P a\/Pv a) H'/\Rep K g H' d v Pv/\Rel K g H' m σ P/\Bj P Pv:=by
  obtain ⟨sm,Pv,h1,h2⟩:=n;refine ⟨Pv,?_,h1,r.held (Step.same (P:=BS) sm) (fun _ z=>z.elim) fun _ _ z=>z,fun a q z=>?_⟩
  · have s2:Step g (fun a=>P a\/Px a) H g (fun a=>P a\/Pv a) H':=
      ⟨fun b o h _=>sm b o h,(Step.same (g:=g) (P:=BS) sm).dom,fun _ h=>h,fun _ h=>.inl h,⟨[],by simp⟩,fun a h=>h.elim (fun q=>.inl (.inl q)) fun q=>.inr (h2 a q),(Step.same (g:=g) (P:=BS) sm).zd⟩
    exact s.trans s2
  · have:=(r.fpOk a q).1;rw [h2 a z] at this;exact this
theorem DH {p:Pr} {os:List Om} {R:kE} (hp:Bc K p R) {Q:VK} (h:tq K (AB p os) σ H Q):JO K os σ H fun vs H1=>R vs H1 Q:=by
 obtain ⟨g,m,P,r,d,m',e,k⟩:=h;simp only [AB,Option.bind_eq_bind,Option.bind_eq_some_iff,Option.some.injEq,Prod.mk.injEq,Prod.exists] at e;obtain ⟨ds,m1,e1,d',e2,rfl,rfl⟩:=e;refine Ba os r e1 fun g' P' Pv vs H1 s rs r1 n1=>hp g' H1 ds vs d' Q r1.zd (AU.ra r1 rs) e2 fun v H2 nw=>?_
 obtain ⟨Pw,s2,h1,r2,n2⟩:=CO.go s r1 nw;exact k g' P' Pw v H2 s2 h1 r2 n2
end
section
variable {X:Cx} {a b c e:Expr} {es:List Expr} {pos:Pos} {oa ob oc:Om} {os:List Om} {f fa fb:Ev Dt} {p:Pr}
structure QO (X:Cx) (e:Expr) (o:Om):Prop where
 h:PE X e (VM X.K o)
structure QA (X:Cx) (es:List Expr) (os:List Om):Prop where
 h:PA X es (JO X.K os)
theorem AC (h:QE X e f):QO X e (.ev f):=⟨h.h⟩
theorem AD {i:Nat} (h:PE X e (NK i)):QO X e (.rf i):=⟨h⟩
theorem AE:QA X [] []:=⟨iS⟩
theorem AA (h1:QO X e oa) (h2:QA X es os) (hs:starEach (e::es) X.env=(false,eval e X.env)::starEach es X.env:=by rfl):QA X (e::es) (oa::os):=⟨bz h1.h h2.h hs⟩
def NH (r:R2):kE:=fun vs H Q=>match vs with | [x,y]=>r x y H Q | _=>False
def qb (r:V->Hp->VK->Prop):kE:=fun vs H Q=>match vs with | [x]=>r x H Q | _=>False
theorem BQ {op:Operator} {r:R2} (ho:FW X (binaryOp op) r) (hp:Bc X.K p (NH r)) (ha:QO X a oa) (hb:QO X b ob):QE X (.BinOp a op b pos) (AB p [oa,ob]):=⟨PE.imp (lS ho ha.h hb.h) fun _ _ _ h=>DH hp h⟩
theorem bW {op:UnaryOp} {r:V->Hp->VK->Prop} (ho:nR X (unaryOp op) r) (hp:Bc X.K p (qb r)) (ha:QO X a oa):QE X (.UnaryOp op a pos) (AB p [oa]):=⟨PE.imp (lQ ho ha.h) fun _ _ _ h=>DH hp h⟩
theorem eP {op:CmpOp} {r:R2} (ho:FW X (compareOp op) r) (hp:Bc X.K p (NH r)) (ha:QO X a oa) (hb:QO X b ob) (hm:behindInMarks op b=false):QE X (.Compare a [op] [b] pos) (AB p [oa,ob]):=⟨PE.imp (bu ho ha.h hb.h hm) fun _ _ _ h=>DH hp h⟩
theorem nq {r:R2} (hr:WY X r) (hp:Bc X.K p (NH r)) (ha:QO X a oa) (hb:QO X b ob) (hs:QZ b):QE X (.Subscript a b pos) (AB p [oa,ob]):=⟨PE.imp (lT hr ha.h hb.h hs) fun _ _ _ h=>DH hp h⟩
theorem BF {x:Str} {id:String} {r:kE} {pn:Pos} (hc:GP X (.builtin id) r) (hp:Bc X.K p r) (hg:Gl X x) (hm:X.mg x=none) (hv:bootBuiltins x=some (.builtin id)) (ha:QA X (e::es) os) (hn:x ≠ "__name__" := by decide) (hdb:(x == ("__debug__" : Str))=false:=by decide)
    (he:starEach (e::es) X.env=(false,eval e X.env)::starEach es X.env:=by rfl) (hpl:(backTo pos (starEach es X.env)).any (·.1)=false:=by rfl):QE X (.Call (.Name x pn) (e::es) [] pos) (AB p os):=⟨PE.imp (Xu hc hg hm hv ha.h hn hdb he hpl) fun _ _ _ h=>DH hp h⟩
theorem Aw {x:Str} {T:String} {r:kE} {pn:Pos} (hc:GP X (.type T) r) (hp:Bc X.K p r) (hg:Gl X x) (hm:X.mg x=none) (hv:bootBuiltins x=some (.type T)) (ha:QA X (e::es) os) (hn:x ≠ "__name__" := by decide) (hdb:(x == ("__debug__" : Str))=false:=by decide)
    (he:starEach (e::es) X.env=(false,eval e X.env)::starEach es X.env:=by rfl) (hpl:(backTo pos (starEach es X.env)).any (·.1)=false:=by rfl):QE X (.Call (.Name x pn) (e::es) [] pos) (AB p os):=⟨PE.imp (Vd hc hg hm hv ha.h hn hdb he hpl) fun _ _ _ h=>DH hp h⟩
noncomputable def Ab (i:Nat) (m:M):Option (Dt×M):=do
 let d <- (m.ρ[i]?).join
 if d.cp then some (d,m) else some (d.fz,m.set i (some d.fz))
noncomputable def Hb (i:Nat) (m:M):Option (Dt×M):=do
 let d <- (m.ρ[i]?).join
 some (d,m.set i none)
noncomputable def Aa (d:Dt) (m:M):Option (Dt×M):=some (d,m)
theorem Ai {i:Nat} (h:PE X e (NK i)):QE X e (Ab i):=⟨PE.imp h fun σ H Q q=>by
 obtain ⟨g,m,P,r,d,m',e,k⟩:=q;simp only [Ab,Option.bind_eq_bind,Option.bind_eq_some_iff] at e;obtain ⟨d0,e0,e⟩:=e;obtain ⟨v,P1,P2,e1,k1,k2,k3,k4⟩:=r.take (CJ e0);refine ⟨v,e1,?_⟩;split at e
 ·rename_i c;simp only [Option.some.injEq,Prod.mk.injEq] at e;obtain ⟨rfl,rfl⟩:=e;exact k g P BS v H (Step.refl.sub (fun _ q=>q) fun _ q=>q.elim id False.elim) (k1.cp c) r fun _ _ z=>z
 ·simp only [Option.some.injEq,Prod.mk.injEq] at e;obtain ⟨rfl,rfl⟩:=e;have fr:Rep _ (g.add P1) H d0.fz v BS:=k1.freeze (fun _ q=>q) fun a q=>(k1.fpOk a q).1
  have st:Step g P1 H (g.add P1) BS H:=Step.freeze k1.fpOk;have r2:=k2.held st k1.fpOk fun a q z=>k3 a z q
  have hi:i < m.ρ.length:=(List.getElem?_eq_some_iff.mp (CJ e0)).1;have r3:=r2.put (i:=i) (d:=d0.fz) (by show (m.ρ.set i none)[i]?=_;rw [List.getElem?_set_self hi]) e1 fr fun _ z=>z.elim
  have em:(m.set i none).set i (some d0.fz)=m.set i (some d0.fz):=by unfold M.set;simp
  rw [em] at r3;refine k (g.add P1) _ BS v H ?_ fr r3 fun _ _ z=>z
  refine (st.frame (R:=P2)).sub (fun a q=>(k4 a).mpr q) fun a q=>?_
  exact q.elim (fun q=>q.elim (fun z=>z.elim) .inr) fun z=>z.elim⟩
theorem Lw {i:Nat} (h:PE X e (NK i)):QE X e (Hb i):=⟨PE.imp h fun σ H Q q=>by
 obtain ⟨g,m,P,r,d,m',e,k⟩:=q;simp only [Hb,Option.bind_eq_bind,Option.bind_eq_some_iff,Option.some.injEq,Prod.mk.injEq] at e;obtain ⟨d0,e0,rfl,rfl⟩:=e;obtain ⟨v,P1,P2,e1,k1,k2,k3,k4⟩:=r.take (CJ e0);exact ⟨v,e1,k g P2 P1 v H (Step.refl.sub (fun _ q=>q) fun a q=>(k4 a).mpr q.symm) k1 k2 fun a q z=>k3 a z q⟩⟩
theorem nJ {v:V} {d:Dt} (h:PE X e (tC v)) (hd:∀ K g H,Rep K g H d v BS):QE X e (Aa d):=⟨PE.imp h fun σ H Q q=>by
 obtain ⟨g,m,P,r,d',m',e,k⟩:=q;simp only [Aa,Option.some.injEq,Prod.mk.injEq] at e;obtain ⟨rfl,rfl⟩:=e;exact k g P BS v H (Step.refl.sub (fun _ q=>q) fun _ q=>q.elim id False.elim) (hd _ g H) r fun _ _ z=>z⟩
theorem Bi {i j pos}:QE X (.Constant (.int i) j pos) (Aa (.int i)):=nJ iP fun _ _ _=>by unfold Rep;exact ⟨rfl,fun _ z=>z⟩
theorem Ip {b j pos}:QE X (.Constant (.bool b) j pos) (Aa (.bl b)):=nJ lW fun _ _ _=>by unfold Rep;exact ⟨rfl,fun _ z=>z⟩
theorem IR {x:Str} {l:List Nat} {j pos} (h:x=tx l:=by rfl):QE X (.Constant (.str x) j pos) (Aa (.str l)):=nJ iL fun _ _ _=>by unfold Rep;exact ⟨by rw [h],fun _ z=>z⟩
def BI (t:List Dt->Dt) (os:List Om) (m:M):Option (Dt×M):=do
 let (ds,m') <- AV os m
 if ds.length<=1000000 then some (t ds,m') else none
noncomputable def cm:List Om->Bool
 | []=>true
 | .ev _::os=>cm os
 | .rf _::_=>false
theorem AU.reps {K:W.Frag} {g:G} {H:Hp} {ρ:List (Option Dt)} {σ:St}:∀ {os:List Om} {ds:List Dt} {vs:List V} {P:Fp},cm os=true->AU K g H ρ σ os ds vs P->AG K g H ds vs P
 | [],ds,vs,P,_,h=>by unfold AU at h;obtain ⟨rfl,rfl,n⟩:=h;unfold AG;exact ⟨rfl,n⟩
 | .ev f::os,ds,vs,P,e,h=>by
  unfold AU at h;obtain ⟨d,dr,v,vr,P1,P2,rfl,rfl,h1,h2,h3,h4⟩:=h;unfold AG;exact ⟨v,vr,P1,P2,rfl,h1,AU.reps (by unfold cm at e;exact e) h2,h3,h4⟩
 | .rf i::os,ds,vs,P,e,h=>by unfold cm at e;cases e
theorem DG {x1} (hq:QA X es os) (he:cm os=true:=by rfl):QE X (.Tuple es x1 pos) (BI .tup os):=⟨PE.imp (iK hq.h) fun σ H Q q=>by
 obtain ⟨g,m,P,r,d,m',e,k⟩:=q;simp only [BI,Option.bind_eq_bind,Option.bind_eq_some_iff,Prod.exists] at e;obtain ⟨ds,m1,e1,e⟩:=e;split at e
 ·rename_i hz;simp only [Option.some.injEq,Prod.mk.injEq] at e;obtain ⟨rfl,rfl⟩:=e;refine Ba os r e1 fun g' P' Pv vs H1 s rs r1 n1=>?_
  have rp:=AU.reps he rs;refine ⟨by rw [<- rp.len];exact Nat.le_trans hz (by decide),fun p hp=>?_⟩;have sm:=HU hp (.tup vs);have st:=Step.same (g:=g') (P:=BS) sm;have h2:=rp.held st (fun _ z=>z.elim) fun _ _ z=>z
  refine k g' P' Pv (.ref p) _ ?_ ?_ (r1.held st (fun _ z=>z.elim) fun _ _ z=>z) n1
  ·exact s.trans (Step.same sm)
  ·unfold Rep;exact ⟨p,vs,rfl,Cy,h2⟩
 ·cases e⟩
theorem FM (hq:QA X es os) (he:cm os=true:=by rfl):QE X (.List es pos) (BI (.lst true) os):=⟨PE.imp (iO hq.h) fun σ H Q q=>by
 obtain ⟨g,m,P,r,d,m',e,k⟩:=q;simp only [BI,Option.bind_eq_bind,Option.bind_eq_some_iff,Prod.exists] at e;obtain ⟨ds,m1,e1,e⟩:=e;split at e
 ·rename_i hz;simp only [Option.some.injEq,Prod.mk.injEq] at e;obtain ⟨rfl,rfl⟩:=e;refine Ba os r e1 fun g' P' Pv vs H1 s rs r1 n1=>?_
  have rp:=AU.reps he rs;refine ⟨by rw [<- rp.len];exact Nat.le_trans hz (by decide),fun p hp=>?_⟩;have sm:=HU hp (.lst vs);have st:=Step.same (g:=g') (P:=BS) sm;have h2:=rp.held st (fun _ z=>z.elim) fun _ _ z=>z
  have np:∀ {R:Fp},FpOk g' H1 R->¬ R p:=fun ok z=>by have:=(ok p z).1;rw [hp] at this;exact this
  have nz:¬ g'.Z p:=fun z=>r1.zd p z hp
  refine k g' P' (fun b=>b=p\/Pv b) (.ref p) _ ?_ ?_ (r1.held st (fun _ z=>z.elim) fun _ _ z=>z) fun a q z=>z.elim (fun z=>np r1.fpOk (z▸q)) fun z=>n1 a q z
  ·refine s.trans ⟨fun b o h _=>sm b o h,st.dom,fun _ h=>h,fun _ h=>.inl h,⟨[],by simp⟩,fun a h=>?_,st.zd⟩;exact h.elim (fun q=>.inl (.inl q)) fun q=>q.elim (fun q=>.inr (q▸hp)) fun q=>.inl (.inr q)
  ·unfold Rep;exact ⟨p,vs,Pv,rfl,⟨Cy,nz⟩,h2,np rp.fpOk,fun z=>by (cases z),fun b=>⟨fun z=>z.elim (fun z=>.inl ⟨rfl,z⟩) .inr,fun z=>z.elim (fun z=>.inl z.2) .inr⟩⟩
 ·cases e⟩
end
def Ca (f:Ev Dt) (m:M):Option (Bool×M):=do
 let (d,m') <- f m
 match d with
 | .bl b=>some (b,m')
 | _=>none
noncomputable def Qi:Dt->Option Bool
 | .non=>some false
 | .bl b=>some b
 | .int i=>some (i != 0)
 | .str l=>if l.length<=1000000 then some (!l.isEmpty) else none
 | .tup ds=>some (!ds.isEmpty)
 | .lst _ ds=>some (!ds.isEmpty)
 | .scr ns=>some (!ns.isEmpty)
 | _=>none
def FE (o:Om) (m:M):Option (Bool×M):=do
 let (ds,m') <- AV [o] m
 match ds with
 | [d]=>do
  let b <- Qi d
  some (b,m')
 | _=>none
def IU (f g:Ev Bool) (m:M):Option (Bool×M):=do
 let (b,m1) <- f m
 if b then g m1 else some (false,m1)
def Kl (f g:Ev Bool) (m:M):Option (Bool×M):=do
 let (b,m1) <- f m
 if b then some (true,m1) else g m1
def GJ (f:Ev Bool) (m:M):Option (Bool×M):=do
 let (b,m1) <- f m
 some (!b,m1)
def DL {α:Type} (c:Ev Bool) (f g:M->Option α) (m:M):Option α:=do
 let (b,m1) <- c m
 if b then f m1 else g m1
def Ri (p':Pr) (oc:Om) (d2:Dt) (m1:M):Option (Dt×M):=do
 let (es,m2) <- AV [oc] m1
 match es with
 | [d3]=>do
  let r' <- p' [d2,d3]
  some (r',m2)
 | _=>none
def Gh (p p':Pr) (oa ob oc:Om) (m:M):Option (Dt×M):=do
 let (ds,m1) <- AV [oa,ob] m
 match ds with
 | [d1,d2]=>do
  let r <- p [d1,d2]
  match r with
  | .bl true=>bif d2.cp then Ri p' oc d2 m1 else none
  | .bl false=>some (.bl false,m1)
  | _=>none
 | _=>none
section
variable {K:W.Frag} {σ:St} {H:Hp}
theorem Dp {g:G} {b:Bool} {v:V} {P:Fp} (h:Rep K g H (.bl b) v P):v=.bl b:=by unfold Rep at h;exact h.1
theorem Ap {g:G} {b:Int} {v:V} {P:Fp} (h:Rep K g H (.int b) v P):v=.int b:=by unfold Rep at h;exact h.1
theorem CA {g:G} {b:List Nat} {v:V} {P:Fp} (h:Rep K g H (.str b) v P):v=.str (tx b):=by unfold Rep at h;exact h.1
theorem Ov {g:G} {v:V} {P:Fp} (h:Rep K g H .non v P):v=.non:=by unfold Rep at h;exact h.1
theorem Rep.tup {g:G} {ds:List Dt} {v:V} {P:Fp} (h:Rep K g H (.tup ds) v P):∃ a vs,v=.ref a/\IK K H a vs/\AG K g H ds vs P:=by unfold Rep at h;obtain ⟨a,vs,e,h1,h2⟩:=h;exact ⟨a,vs,e,.inl (.inl h1),h2⟩
theorem Rep.tupH {g:G} {ds:List Dt} {v:V} {P:Fp} (h:Rep K g H (.tup ds) v P):∃ a vs,v=.ref a/\H a=some (.tup vs)/\AG K g H ds vs P:=by unfold Rep at h;exact h
theorem Rep.lst {g:G} {o:Bool} {ds:List Dt} {v:V} {P:Fp} (h:Rep K g H (.lst o ds) v P):∃ a vs P',v=.ref a/\H a=some (.lst vs)/\AG K g H ds vs P':=by
 unfold Rep at h;obtain ⟨a,vs,P',e,h1,h2,_⟩:=h;refine ⟨a,vs,P',e,?_,h2⟩;cases o<;>exact h1.1
theorem Rep.scr {g:G} {ns:List Int} {v:V} {P:Fp} (h:Rep K g H (.scr ns) v P):∃ a,v=.ref a/\HC K H a (ns.map V.int):=by unfold Rep at h;obtain ⟨⟨a,e,h1⟩,_⟩:=h;exact ⟨a,e,h1.sq⟩
theorem ay {f:Ev Dt} {Q:Bool->Hp->Prop} (h:VL K (Ca f) σ H Q):tq K f σ H fun x H'=>∃ k,x=.bl k/\Q k H':=by
 obtain ⟨g,m,P,r,b,m',e,k⟩:=h;simp only [Ca.eq_def,Option.bind_eq_bind,Option.bind_eq_some_iff,Prod.exists] at e;obtain ⟨d,m1,e1,e⟩:=e;cases d<;>simp only [Option.some.injEq,Prod.mk.injEq,reduceCtorEq] at e;obtain ⟨rfl,rfl⟩:=e;exact ⟨g,m,P,r,_,_,e1,fun g' P' Pv v H' s rv r1 n=>⟨_,Dp rv,k g' P' H' (s.sub (fun _ q=>q) fun _ q=>.inl q) r1⟩⟩
theorem az {g:G} {d:Dt} {v:V} {P:Fp} {b:Bool} (h:Rep K g H d v P) (e:Qi d=some b):kA K v H b:=by
 cases d with
 | non=>rw [Ov h];simp only [Qi.eq_def,Option.some.injEq] at e;exact e.symm
 | bl c=>rw [Dp h];simp only [Qi.eq_def,Option.some.injEq] at e;exact e.symm
 | int i=>rw [Ap h];simp only [Qi.eq_def,Option.some.injEq] at e;exact e.symm
 | str l =>
  rw [CA h];simp only [Qi.eq_def] at e;split at e
  ·simp only [Option.some.injEq] at e;rename_i hl;refine ⟨by rw [Et];exact Nat.le_trans hl (by decide),?_⟩;rw [Et,<- e];cases l with
   | nil=>rfl
   | cons x xs =>
    show true=_
    symm
    rw [bne_iff_ne];simp only [List.length_cons];omega
  ·cases e
 | tup ds =>
  simp only [Qi.eq_def,Option.some.injEq] at e;obtain ⟨a,vs,rfl,h1,h2⟩:=h.tup;refine .inr (.inl ⟨vs,h1,?_⟩);rw [<- e];have:=h2.len;cases ds<;>cases vs<;>simp_all
 | lst o ds =>
  simp only [Qi.eq_def,Option.some.injEq] at e;obtain ⟨a,vs,P',rfl,h1,h2⟩:=h.lst;refine .inl ⟨vs,.inl (.inl h1),?_⟩;rw [<- e];have:=h2.len;cases ds<;>cases vs<;>simp_all
 | scr ns =>
  simp only [Qi.eq_def,Option.some.injEq] at e;obtain ⟨a,rfl,h1⟩:=h.scr;refine .inl ⟨_,h1,?_⟩;rw [<- e];cases ns<;>simp
 | dic _ _=>simp [Qi.eq_def] at e
 | ref _=>simp [Qi.eq_def] at e
 | ty _=>simp [Qi.eq_def] at e
 | mtp _=>simp [Qi.eq_def] at e
 | dti _ _=>simp [Qi.eq_def] at e
theorem PK {o:Om} {g:G} {m m':M} {P:Fp} {d:Dt} {Q:VK} (r:Rel K g H m σ P) (e:AV [o] m=some ([d],m'))
    (k:∀ g' P' Pv Pr v H',Step g P H g' (fun a=>P' a\/Pv a) H'->Rep K g' H' d v Pr->Rel K g' H' m' σ P'->Bj P' Pv->Q v H'):VM K o σ H Q:=by
  have q:=Ba (Q:=fun vs H'=>∃ v,vs=[v]/\Q v H') [o] r e fun g' P' Pv vs H' s rs r1 n=>by
    have ra:=AU.ra r1 rs;unfold RA at ra;obtain ⟨v,vr,Pr,rfl,h1,h2⟩:=ra;unfold RA at h2;subst h2;exact ⟨v,rfl,k g' P' Pv Pr v H' s h1 r1 n⟩
  have q2:VM K o σ H fun x H1=>∃ v,[x]=[v]/\Q v H1:=q
  have mono:∀ (Q1 Q2:VK),(∀ v H,Q1 v H->Q2 v H)->VM K o σ H Q1->VM K o σ H Q2:=by
    intro Q1 Q2 h12 t;cases o with
    | ev f =>
      obtain ⟨g,m,P,r,d,m',e,k⟩:=t;exact ⟨g,m,P,r,d,m',e,fun g' P' Pv v H' a b c d=>h12 _ _ (k g' P' Pv v H' a b c d)⟩
    | rf i=>obtain ⟨v,e,q⟩:=t;exact ⟨v,e,h12 _ _ q⟩
  refine mono _ _ (fun v H1 q=>?_) q2;obtain ⟨v',e',q⟩:=q;cases e';exact q
end
section
variable {X:Cx} {a b c e:Expr} {es rest:List Expr} {pos:Pos} {oa ob oc:Om} {os:List Om} {f fa fb:Ev Dt} {t u:Ev Bool} {p p':Pr}
theorem BJ {op:CmpOp} {r:R2} (ho:FW X (compareOp op) r) (hp:Bc X.K p (NH r)) (ha:QO X a oa) (hb:QO X b ob) (hm:behindInMarks op b=false):QT X (.Compare a [op] [b] pos) (Ca (AB p [oa,ob])):=⟨PT.imp (bb ho ha.h hb.h hm) fun _ _ _ h=>DH hp (ay h)⟩
theorem ET (ha:QO X a oa) (he:∀ whole,isTrue a X.env whole=(do let v <- whole;standAt a.pos;holding [v] (truthy v))):QT X a (FE oa):=⟨PT.imp (Xg ha.h he) fun σ H Q h=>by
 obtain ⟨g,m,P,r,b,m',e,k⟩:=h;simp only [FE.eq_def,Option.bind_eq_bind,Option.bind_eq_some_iff,Prod.exists] at e;obtain ⟨ds,m1,e1,e⟩:=e;split at e
 ·rename_i d;simp only [Option.bind_eq_some_iff,Option.some.injEq,Prod.mk.injEq] at e;obtain ⟨b',e2,rfl,rfl⟩:=e;exact PK r e1 fun g' P' Pv Pr v H' s rv r1 n=>⟨b',az rv e2,k g' P' H' (s.sub (fun _ q=>q) fun _ q=>.inl q) r1⟩
 ·cases e⟩
theorem bA {K:W.Frag} {σ:St} {H:Hp} {Q:Bool->Hp->Prop} (h:VL K (IU t u) σ H Q):kr (VL K t) (VL K u) σ H Q:=by
 obtain ⟨g,m,P,r,b,m',e,k⟩:=h;simp only [IU,Option.bind_eq_bind,Option.bind_eq_some_iff,Prod.exists] at e;obtain ⟨b1,m1,e1,e⟩:=e;refine ⟨g,m,P,r,b1,m1,e1,fun g' P' H' s r1=>?_⟩;cases b1 with
 | true=>rw [if_pos rfl] at e ⊢;exact ⟨g',m1,P',r1,b,m',e,fun g2 P2 H2 s2 r2=>k g2 P2 H2 (s.trans s2) r2⟩
 | false =>
  rw [if_neg (by decide)] at e;rw [if_neg (by decide)];simp only [Option.some.injEq,Prod.mk.injEq] at e;obtain ⟨rfl,rfl⟩:=e;exact k g' P' H' s r1
theorem gf {K:W.Frag} {σ:St} {H:Hp} {Q:Bool->Hp->Prop} (h:VL K (Kl t u) σ H Q):pW (VL K t) (VL K u) σ H Q:=by
 obtain ⟨g,m,P,r,b,m',e,k⟩:=h;simp only [Kl,Option.bind_eq_bind,Option.bind_eq_some_iff,Prod.exists] at e;obtain ⟨b1,m1,e1,e⟩:=e;refine ⟨g,m,P,r,b1,m1,e1,fun g' P' H' s r1=>?_⟩;cases b1 with
 | false =>
  rw [if_neg (by decide)] at e;rw [if_neg (by decide)];exact ⟨g',m1,P',r1,b,m',e,fun g2 P2 H2 s2 r2=>k g2 P2 H2 (s.trans s2) r2⟩
 | true =>
  rw [if_pos rfl] at e ⊢;simp only [Option.some.injEq,Prod.mk.injEq] at e;obtain ⟨rfl,rfl⟩:=e;exact k g' P' H' s r1
structure QW (X:Cx) (e:Expr) (f:Ev Bool):Prop where
 h:PW X e (VL X.K f)
theorem Kx (ha:QT X a t):QW X (.BoolOp .And [a] pos) t:=⟨ba ha.h⟩
theorem Jt (ha:QT X a t):QW X (.BoolOp .Or [a] pos) t:=⟨hV ha.h⟩
theorem Lv (ha:QT X a t) (hb:QW X (.BoolOp .And (b::rest) pos) u):QW X (.BoolOp .And (a::b::rest) pos) (IU t u):=⟨PW.imp (hW ha.h hb.h) fun _ _ _ h=>bA h⟩
theorem Lu (ha:QT X a t) (hb:QW X (.BoolOp .Or (b::rest) pos) u):QW X (.BoolOp .Or (a::b::rest) pos) (Kl t u):=⟨PW.imp (lO ha.h hb.h) fun _ _ _ h=>gf h⟩
theorem NM (h:QW X e t):QT X e t:=⟨PW.pt h.h⟩
theorem GX (ha:QT X a t):QT X (.UnaryOp .Not a pos) (GJ t):=⟨PT.imp (hX ha.h) fun σ H Q h=>by
 obtain ⟨g,m,P,r,b,m',e,k⟩:=h;simp only [GJ,Option.bind_eq_bind,Option.bind_eq_some_iff,Prod.exists,Option.some.injEq,Prod.mk.injEq] at e;obtain ⟨b1,m1,e1,rfl,rfl⟩:=e;exact ⟨g,m,P,r,b1,m1,e1,k⟩⟩
theorem HW {K:W.Frag} {g:G} {H:Hp} {b:Bool}:Rep K g H (.bl b) (.bl b) BS:=by unfold Rep;exact ⟨rfl,fun _ z=>z⟩
theorem eO {op} (h:QE X a f):QE X (.BoolOp op [a] pos) f:=⟨iM h.h⟩
def KF (f g:Ev Dt) (m:M):Option (Dt×M):=do
 let (d,m1) <- f m
 match d with
 | .bl true=>g m1
 | .bl false=>some (.bl false,m1)
 | _=>none
def OL (f g:Ev Dt) (m:M):Option (Dt×M):=do
 let (d,m1) <- f m
 match d with
 | .bl true=>some (.bl true,m1)
 | .bl false=>g m1
 | _=>none
def KD (f:Ev Dt) (m:M):Option (Dt×M):=do
 let (d,m1) <- f m
 match d with
 | .bl b=>some (.bl (!b),m1)
 | _=>none
theorem lN (ha:QE X a fa) (hb:QE X (.BoolOp .And (b::rest) pos) fb):QE X (.BoolOp .And (a::b::rest) pos) (KF fa fb):=⟨PE.imp (iR ha.h hb.h) fun σ H Q h=>by
 obtain ⟨g,m,P,r,d,m',e,k⟩:=h;simp only [KF.eq_def,Option.bind_eq_bind,Option.bind_eq_some_iff,Prod.exists] at e;obtain ⟨d1,m1,e1,e⟩:=e;refine ⟨g,m,P,r,d1,m1,e1,fun g' P' Pv v H' s rv r1 n=>?_⟩;have s':Step g P H g' P' H':=s.sub (fun _ q=>q) fun _ q=>.inl q
 split at e
 ·exact ⟨true,Dp rv,by rw [if_pos rfl];exact ⟨g',m1,P',r1,d,m',e,fun g2 P2 Pw v2 H2 s2 rv2 r2 n2=>k g2 P2 Pw v2 H2 (s'.trans s2) rv2 r2 n2⟩⟩
 ·simp only [Option.some.injEq,Prod.mk.injEq] at e;obtain ⟨rfl,rfl⟩:=e;exact ⟨false,Dp rv,by rw [if_neg (by decide)];exact k g' P' BS _ H' (s'.sub (fun _ q=>q) fun _ q=>q.elim id False.elim) HW r1 fun _ _ z=>z⟩
 ·cases e⟩
theorem nk (ha:QE X a fa) (hb:QE X (.BoolOp .Or (b::rest) pos) fb):QE X (.BoolOp .Or (a::b::rest) pos) (OL fa fb):=⟨PE.imp (lR ha.h hb.h) fun σ H Q h=>by
 obtain ⟨g,m,P,r,d,m',e,k⟩:=h;simp only [OL.eq_def,Option.bind_eq_bind,Option.bind_eq_some_iff,Prod.exists] at e;obtain ⟨d1,m1,e1,e⟩:=e;refine ⟨g,m,P,r,d1,m1,e1,fun g' P' Pv v H' s rv r1 n=>?_⟩;have s':Step g P H g' P' H':=s.sub (fun _ q=>q) fun _ q=>.inl q
 split at e
 ·simp only [Option.some.injEq,Prod.mk.injEq] at e;obtain ⟨rfl,rfl⟩:=e;exact ⟨true,Dp rv,by rw [if_pos rfl];exact k g' P' BS _ H' (s'.sub (fun _ q=>q) fun _ q=>q.elim id False.elim) HW r1 fun _ _ z=>z⟩
 ·exact ⟨false,Dp rv,by rw [if_neg (by decide)];exact ⟨g',m1,P',r1,d,m',e,fun g2 P2 Pw v2 H2 s2 rv2 r2 n2=>k g2 P2 Pw v2 H2 (s'.trans s2) rv2 r2 n2⟩⟩
 ·cases e⟩
theorem lM (ha:QE X a fa):QE X (.UnaryOp .Not a pos) (KD fa):=⟨PE.imp (iN ha.h) fun σ H Q h=>by
 obtain ⟨g,m,P,r,d,m',e,k⟩:=h;simp only [KD.eq_def,Option.bind_eq_bind,Option.bind_eq_some_iff,Prod.exists] at e;obtain ⟨d1,m1,e1,e⟩:=e;refine ⟨g,m,P,r,d1,m1,e1,fun g' P' Pv v H' s rv r1 n=>?_⟩;have s':Step g P H g' P' H':=s.sub (fun _ q=>q) fun _ q=>.inl q
 split at e
 ·simp only [Option.some.injEq,Prod.mk.injEq] at e;obtain ⟨rfl,rfl⟩:=e;exact ⟨_,Dp rv,k g' P' BS _ H' (s'.sub (fun _ q=>q) fun _ q=>q.elim id False.elim) HW r1 fun _ _ z=>z⟩
 ·cases e⟩
theorem WK {K:W.Frag} {σ:St} {H:Hp} {r r':R2} (hp:Bc K p (NH r)) (hp':Bc K p' (NH r')) {Q:VK} (h:tq K (Gh p p' oa ob oc) σ H Q):XB r r' (VM K oa) (VM K ob) (VM K oc) σ H Q:=by
 obtain ⟨g,m,P,rl,d,m',e,k⟩:=h;simp only [Gh.eq_def,Option.bind_eq_bind,Option.bind_eq_some_iff,Prod.exists] at e;obtain ⟨ds,m1,e1,e⟩:=e;split at e
 ·rename_i d1 d2;simp only [Option.bind_eq_some_iff] at e;obtain ⟨rr,e2,e⟩:=e;show JO K [oa,ob] σ H fun vs H2=>match vs with | [x,y]=>r x y H2 (fun z H3=>∃ k,z=.bl k/\(if k=true then VM K oc σ H3 fun w' H4=>r' y w' H4 Q else Q (.bl false) H3)) | _=>False
  refine Ba [oa,ob] rl e1 fun g1 P1 Pv vs H1 s rs r1 n1=>?_
  have ra:=AU.ra r1 rs;have ra0:=ra;unfold RA at ra;obtain ⟨v1,vr,Q1,rfl,h1,ra⟩:=ra;unfold RA at ra;obtain ⟨v2,vr,Q2,rfl,h2,ra⟩:=ra;unfold RA at ra;subst ra;refine hp g1 H1 [d1,d2] [v1,v2] rr _ r1.zd ra0 e2 fun v H2 nw=>?_
  obtain ⟨Pw,s2,hv,r2,n2⟩:=CO.go s r1 nw;have s2':Step g P H g1 P1 H2:=s2.sub (fun _ q=>q) fun _ q=>.inl q
  split at e
  ·refine ⟨true,Dp hv,?_⟩;rw [if_pos rfl];cases c2:d2.cp with
   | false=>rw [c2] at e;cases e
   | true =>
    rw [c2,cond_true] at e;simp only [Ri.eq_def,Option.bind_eq_bind,Option.bind_eq_some_iff,Prod.exists] at e;obtain ⟨es,m2,e3,e⟩:=e;split at e
    ·rename_i d3;simp only [Option.bind_eq_some_iff,Option.some.injEq,Prod.mk.injEq] at e;obtain ⟨r4,e4,rfl,rfl⟩:=e;refine PK r2 e3 fun g3 P3 Pv3 Pr3 v3 H3 s3 h3 r3 n3=>?_
     have h2':=(h2.cp c2).held (Step.same (P:=BS) nw.1) (fun _ z=>z.elim) fun _ z=>z.elim
     have h2'':=h2'.held s3 r2.fpOk fun _ z=>z.elim
     refine hp' g3 H3 [d2,d3] [v2,v3] _ _ r3.zd ?_ e4 fun v4 H4 nw4=>?_
     ·unfold RA;refine ⟨v2,[v3],BS,rfl,h2'',?_⟩;unfold RA;refine ⟨v3,[],Pr3,rfl,h3,?_⟩;unfold RA;rfl
     ·obtain ⟨Pw4,s4,hv4,r4',n4⟩:=CO.go (s2'.trans s3) r3 nw4;exact k g3 P3 Pw4 v4 H4 s4 hv4 r4' n4
    ·cases e
  ·simp only [Option.some.injEq,Prod.mk.injEq] at e;obtain ⟨rfl,rfl⟩:=e;refine ⟨false,Dp hv,?_⟩;rw [if_neg (by decide)];exact k g1 P1 BS _ H2 (s2'.sub (fun _ q=>q) fun _ q=>q.elim id False.elim) HW r2 fun _ _ z=>z
  ·cases e
 ·cases e
theorem UA {op op':CmpOp} {r r':R2} (ho:FW X (compareOp op) r) (hp:Bc X.K p (NH r)) (ho':FW X (compareOp op') r') (hp':Bc X.K p' (NH r')) (ha:QO X a oa) (hb:QO X b ob) (hc:QO X c oc)
    (hm:lastMarks [op,op'] [b,c]=false:=by with_unfolding_all rfl):QE X (.Compare a [op,op'] [b,c] pos) (Gh p p' oa ob oc):=⟨PE.imp (Xt ho ho' ha.h hb.h hc.h hm) fun _ _ _ h=>WK hp hp' h⟩
end
inductive Fl where
 | nx | ct | bk | rt (d:Dt)
noncomputable abbrev Es:=M->Option (Fl×M)
def Io (io:List Nat) (σ σ':St):Prop:=∀ i∈io,σ'[i]?=σ[i]?
theorem Io.refl {io:List Nat} {σ:St}:Io io σ σ:=fun _ _=>rfl
theorem Io.trans {io:List Nat} {σ σ1 σ2:St} (a:Io io σ σ1) (b:Io io σ1 σ2):Io io σ σ2:=fun i h=>(b i h).trans (a i h)
def Gp (K:W.Frag) (io:List Nat) (g:G) (P:Fp) (H:Hp) (σ:St) (D:Ends) (m':M):Fl->Prop
 | .nx=>∀ g' P' σ' H',Step g P H g' P' H'->Io io σ σ'->Rel K g' H' m' σ' P'->D.nx σ' H'
 | .ct=>∀ g' P' σ' H',Step g P H g' P' H'->Io io σ σ'->Rel K g' H' m' σ' P'->D.ct σ' H'
 | .bk=>∀ g' P' σ' H',Step g P H g' P' H'->Io io σ σ'->Rel K g' H' m' σ' P'->D.bk σ' H'
 | .rt d=>∀ g' P' Pv σ' v H',Step g P H g' (fun a=>P' a\/Pv a) H'->Io io σ σ'->Rep K g' H' d v Pv->Rel K g' H' m' σ' P'->Bj P' Pv->D.rt v H'
def gg (K:W.Frag) (io:List Nat) (f:Es):TS:=fun D σ H=>∃ g m P,Rel K g H m σ P/\∃ fl m',f m=some (fl,m')/\Gp K io g P H σ D m' fl
structure QS (X:Cx) (io:List Nat) (s:Stmt) (f:Es):Prop where
 h:PS X s (gg X.K io f)
structure QSs (X:Cx) (io:List Nat) (s:List Stmt) (f:Es):Prop where
 h:OX X s (gg X.K io f)
theorem Gp.later {K:W.Frag} {io:List Nat} {g g1:G} {P P1:Fp} {H H1:Hp} {σ σ1:St} {D:Ends} {m':M} {fl:Fl} (s:Step g P H g1 P1 H1) (i:Io io σ σ1) (h:Gp K io g P H σ D m' fl):Gp K io g1 P1 H1 σ1 D m' fl:=by
 cases fl with
 | nx=>exact fun g' P' σ' H' s' i' r=>h g' P' σ' H' (s.trans s') (i.trans i') r
 | ct=>exact fun g' P' σ' H' s' i' r=>h g' P' σ' H' (s.trans s') (i.trans i') r
 | bk=>exact fun g' P' σ' H' s' i' r=>h g' P' σ' H' (s.trans s') (i.trans i') r
 | rt d=>exact fun g' P' Pv σ' v H' s' i' rv r n=>h g' P' Pv σ' v H' (s.trans s') (i.trans i') rv r n
noncomputable def BX (m:M):Option (Fl×M):=some (.nx,m)
def Al (f g:Es) (m:M):Option (Fl×M):=do
 let (fl,m1) <- f m
 match fl with
 | .nx=>g m1
 | _=>some (fl,m1)
def BG (f:Ev Dt) (m:M):Option (Fl×M):=do
 let (d,m') <- f m
 some (.rt d,m')
noncomputable def pF (m:M):Option (Fl×M):=some (.rt .non,m)
def DM (f:Ev Dt) (m:M):Option (Fl×M):=do
 let (_,m') <- f m
 some (.nx,m')
noncomputable def pH (m:M):Option (Fl×M):=some (.ct,m)
section
variable {X:Cx} {io:List Nat} {s:Stmt} {ss rest:List Stmt} {e c:Expr} {pos:Pos} {f f':Es} {fe:Ev Dt} {t:Ev Bool}
theorem BM:QSs X io [] BX:=⟨OX.imp bf fun D σ H h=>by
 obtain ⟨g,m,P,r,fl,m',e,k⟩:=h;simp only [BX,Option.some.injEq,Prod.mk.injEq] at e;obtain ⟨rfl,rfl⟩:=e;exact k g P σ H Step.refl Io.refl r⟩
theorem AH (h:QS X io s f):QSs X io [s] f:=⟨bc h.h⟩
theorem AF (h1:QS X io s f) (h2:QSs X io rest f'):QSs X io (s::rest) (Al f f'):=⟨OX.imp (Xh h1.h h2.h) fun D σ H h=>by
 obtain ⟨g,m,P,r,fl,m',e,k⟩:=h;simp only [Al.eq_def,Option.bind_eq_bind,Option.bind_eq_some_iff,Prod.exists] at e;obtain ⟨fl1,m1,e1,e⟩:=e;refine ⟨g,m,P,r,fl1,m1,e1,?_⟩;cases fl1 with
 | nx=>exact fun g' P' σ' H' s' i' r'=>⟨g',m1,P',r',fl,m',e,k.later s' i'⟩
 | ct=>simp only [Option.some.injEq,Prod.mk.injEq] at e;obtain ⟨rfl,rfl⟩:=e;exact k
 | bk=>simp only [Option.some.injEq,Prod.mk.injEq] at e;obtain ⟨rfl,rfl⟩:=e;exact k
 | rt d=>simp only [Option.some.injEq,Prod.mk.injEq] at e;obtain ⟨rfl,rfl⟩:=e;exact k⟩
def qy:Es:=fun _=>none
theorem Ao (hq:QE X e fe):QS X io (.Return (some e) pos) (BG fe):=⟨PS.imp (iA hq.h) fun D σ H h=>by
 obtain ⟨g,m,P,r,fl,m',e,k⟩:=h;simp only [BG,Option.bind_eq_bind,Option.bind_eq_some_iff,Prod.exists,Option.some.injEq,Prod.mk.injEq] at e;obtain ⟨d,m1,e1,rfl,rfl⟩:=e;exact ⟨g,m,P,r,d,m1,e1,fun g' P' Pv v H' s rv r1 n=>k g' P' Pv σ v H' s Io.refl rv r1 n⟩⟩
theorem De (hq:QE X e fe) (hs:swapsWith e none pos.line X.env=pure false:=by rfl):QS X io (.Expr e pos) (DM fe):=⟨PS.imp (bg hq.h hs) fun D σ H h=>by
 obtain ⟨g,m,P,r,fl,m',e,k⟩:=h;simp only [DM,Option.bind_eq_bind,Option.bind_eq_some_iff,Prod.exists,Option.some.injEq,Prod.mk.injEq] at e;obtain ⟨d,m1,e1,rfl,rfl⟩:=e;exact ⟨g,m,P,r,d,m1,e1,fun g' P' Pv v H' s rv r1 n=>k g' P' σ H' (s.sub (fun _ q=>q) fun _ q=>.inl q) Io.refl r1⟩⟩
theorem CF {a b:List Stmt} (hc:QT X c t) (ha:QSs X io a f) (hb:QSs X io b f'):QS X io (.If c a b pos) (DL t f f'):=⟨PS.imp (lP hc.h ha.h hb.h) fun D σ H h=>by
 obtain ⟨g,m,P,r,fl,m',e,k⟩:=h;simp only [DL,Option.bind_eq_bind,Option.bind_eq_some_iff,Prod.exists] at e;obtain ⟨b1,m1,e1,e⟩:=e;refine ⟨g,m,P,r,b1,m1,e1,fun g' P' H' s r1=>?_⟩;cases b1 with
 | true=>rw [if_pos rfl] at e ⊢;exact ⟨g',m1,P',r1,fl,m',e,k.later s Io.refl⟩
 | false=>rw [if_neg (by decide)] at e ⊢;exact ⟨g',m1,P',r1,fl,m',e,k.later s Io.refl⟩⟩
end
noncomputable abbrev Tg:=Dt->M->Option M
def Ag (js:List Nat) (σ σ':St):Prop:=σ'.length=σ.length/\∀ i,i∉js->σ'[i]?=σ[i]?
theorem Ag.io {js io:List Nat} {σ σ':St} (h:Ag js σ σ') (d:∀ i∈io,i∉js):Io io σ σ':=fun i hi=>h.2 i (d i hi)
def VB (K:W.Frag) (js:List Nat) (tg:TG) (f:Tg):Prop:=∀ g m m' P d Pv v σ H Q,Rel K g H m σ P->Rep K g H d v Pv->Bj P Pv->f d m=some m' ->
 (∀ P' σ',(∀ a,P' a->P a\/Pv a)->Ag js σ σ'->Rel K g H m' σ' P'->Q σ' H)->tg v σ H Q
def dH (K:W.Frag) (js:List Nat) (tg:VC) (f:List Dt->M->Option M):Prop:=∀ g m m' P ds Pv vs σ H Q,Rel K g H m σ P->AG K g H ds vs Pv->Bj P Pv->f ds m=some m' ->
 (∀ P' σ',(∀ a,P' a->P a\/Pv a)->Ag js σ σ'->Rel K g H m' σ' P'->Q σ' H)->tg vs σ H Q
noncomputable def Aj (i:Nat) (d:Dt) (m:M):Option M:=if i < m.ρ.length then some (m.set i (some d)) else none
noncomputable def Bd (ds:List Dt) (m:M):Option M:=match ds with | []=>some m | _=>none
def AM (f:Tg) (r:List Dt->M->Option M) (ds:List Dt) (m:M):Option M:=match ds with | d::ds=>do { let m1 <- f d m;r ds m1 } | _=>none
noncomputable def Kv (f:List Dt->M->Option M) (d:Dt) (m:M):Option M:=match d with | .tup ds=>f ds m | _=>none
noncomputable def pV (f:List Dt->M->Option M) (d:Dt) (m:M):Option M:=match d with | .lst _ ds=>f ds m | _=>none
section
variable {K:W.Frag} {io:List Nat}
theorem AI {i:Nat}:VB K [i] (MP i) (Aj i):=by
 intro g m m' P d Pv v σ H Q r rv n e k;unfold Aj at e;split at e
 ·rename_i hi;simp only [Option.some.injEq] at e;subst e;obtain ⟨P2,r2,s⟩:=r.setNew hi rv fun a q z=>n a z q
  exact k P2 _ s ⟨List.length_set ..,fun j hj=>List.getElem?_set_ne fun (z:i=j)=>hj (by rw [z];exact List.mem_singleton_self _)⟩ r2
 ·cases e
theorem Eb:dH K [] jS Bd:=by
 intro g m m' P ds Pv vs σ H Q r rv n e k;cases ds with
 | nil =>
  simp only [Bd.eq_def,Option.some.injEq] at e;subst e;unfold AG at rv;exact ⟨rv.1,k P σ (fun _ q=>.inl q) ⟨rfl,fun _ _=>rfl⟩ r⟩
 | cons d ds=>cases e
theorem BB {js ks:List Nat} {tg:TG} {tgs:VC} {f:Tg} {fr:List Dt->M->Option M} (h1:VB K js tg f) (h2:dH K ks tgs fr):dH K (js++ks) (ZY tg tgs) (AM f fr):=by
 intro g m m' P ds Pv vs σ H Q r rv n e k;cases ds with
 | nil=>cases e
 | cons d ds =>
  simp only [AM.eq_def,Option.bind_eq_bind,Option.bind_eq_some_iff] at e;obtain ⟨m1,e1,e2⟩:=e;unfold AG at rv;obtain ⟨v,vr,P1,P2,rfl,k1,k2,k3,k4⟩:=rv;refine ⟨v,vr,rfl,h1 g m m1 P d P1 v σ H _ r k1 (fun a q z=>n a q ((k4 a).mpr (.inl z))) e1 fun P' σ' s i r'=>?_⟩;refine h2 g m1 m' P' ds P2 vr σ' H Q r' k2 (fun a q z=>(s a q).elim (fun q=>n a q ((k4 a).mpr (.inr z))) fun q=>k3 a q z) e2 fun P'' σ'' s' i' r''=>?_
  exact k P'' σ'' (fun a q=>(s' a q).elim (fun q=>(s a q).elim .inl fun q=>.inr ((k4 a).mpr (.inl q))) fun q=>.inr ((k4 a).mpr (.inr q))) ⟨i'.1.trans i.1,fun j hj=>(i'.2 j fun z=>hj (List.mem_append_right _ z)).trans (i.2 j fun z=>hj (List.mem_append_left _ z))⟩ r''
theorem GR {js:List Nat} {n:Nat} {tgs:VC} {f:List Dt->M->Option M} (h:dH K js tgs f) (hn:∀ ds m m',f ds m=some m'->ds.length=n):VB K js (cb K n tgs) (Kv f):=by
 intro g m m' P d Pv v σ H Q r rv nn e k;cases d<;>simp only [Kv.eq_def,reduceCtorEq] at e;rename_i ds;obtain ⟨a,vs,rfl,h1,h2⟩:=rv.tup;exact ⟨a,vs,rfl,h1,by rw [<- h2.len];exact hn _ _ _ e,h g m m' P ds Pv vs σ H Q r h2 nn e k⟩
theorem Ei:∀ (ds:List Dt) (m m':M),Bd ds m=some m'->ds.length=0
 | [],_,_,_=>rfl
 | _::_,_,_,h=>by cases h
theorem BD {f:Tg} {r:List Dt->M->Option M} {n:Nat} (h:∀ ds m m',r ds m=some m'->ds.length=n):∀ (ds:List Dt) (m m':M),AM f r ds m=some m'->ds.length=n+1
 | [],_,_,e=>by cases e
 | d::ds,m,m',e=>by
  simp only [AM.eq_def,Option.bind_eq_bind,Option.bind_eq_some_iff] at e;obtain ⟨m1,e1,e2⟩:=e;rw [List.length_cons,h ds m1 m' e2]
end
def Ad (f:Ev Dt) (tg:Tg) (m:M):Option (Fl×M):=do
 let (d,m1) <- f m
 let m2 <- tg d m1
 some (.nx,m2)
theorem QU {K:W.Frag} {io js:List Nat} {tg:TG} {f:Ev Dt} {ft:Tg} (ht:VB K js tg ft) (hio:∀ i∈io,i∉js) {D:Ends} {σ:St} {H:Hp} (h:gg K io (Ad f ft) D σ H):XC (tq K f) tg D σ H:=by
 obtain ⟨g,m,P,r,fl,m',e,k⟩:=h;simp only [Ad,Option.bind_eq_bind,Option.bind_eq_some_iff,Prod.exists,Option.some.injEq,Prod.mk.injEq] at e;obtain ⟨d,m1,e1,m2,e2,rfl,rfl⟩:=e;refine ⟨g,m,P,r,d,m1,e1,fun g' P' Pv v H' s rv r1 n=>ht g' m1 m2 P' d Pv v σ H' _ r1 rv n e2 fun P2 σ2 s2 i r2=>?_⟩;exact k g' P2 σ2 H' (s.sub (fun _ q=>q) fun a q=>s2 a q) (i.io hio) r2
section
variable {X:Cx} {io:List Nat} {e tg:Expr} {pos pos':Pos} {fe:Ev Dt} {g:TG} {ft:Tg} {i:Nat} {x:Str}
theorem Xe {js:List Nat} (he:QE X e fe) (hg:PG X tg g) (ht:VB X.K js g ft) (hio:∀ i∈io,i∉js) (hs:swapsWithSole [tg] e pos.line X.env=pure false:=by rfl) (hw:swappedStores [tg] e X.env=pure none:=by rfl)
    (h1:(assignEach [tg] X.env).map (·.2)=[assign tg X.env]:=by rfl):QS X io (.Assign [tg] e pos) (Ad fe ft):=⟨PS.imp (Xk he.h hg hs hw h1) fun _ _ _ h=>QU ht hio h⟩
theorem Ac (hN:X.N.Nodup) (hi:X.N[i]?=some x) (hx:Loc X.env.scope x) (hio:i∉io) (he:QE X e fe) (hs:swapsWith e (some (.Name x pos')) pos.line X.env=pure false:=by rfl) (hf:X.fn x=true\/X.env.scope.names.lookup x=some .local:=by first | exact .inl rfl | exact .inr rfl | assumption):QS X io (.Assign [.Name x pos'] e pos) (Ad fe (Aj i)):=⟨PS.imp (hZ hN hi hx he.h hs hf) fun _ _ _ h=>QU AI (fun j hj z=>hio (by rw [<- List.mem_singleton.mp z];exact hj)) h⟩
def Rg (i j:Nat) (os:List Om) (m:M):Option (Fl×M):=do
 let (ds,m1) <- AV os m
 match ds with
 | [a,b]=>if i < m1.ρ.length && j < m1.ρ.length then some (.nx,(m1.set i (some a)).set j (some b)) else none
 | _=>none
theorem hG {j:Nat} {y:Str} {a b:Expr} {px py pt:Pos} {kt k2 pt2} {os:List Om} (hc:X.calm=true) (hN:X.N.Nodup) (hi:X.N[i]?=some x) (hj:X.N[j]?=some y) (hij:i≠j)
    (hx:X.env.scope.names.lookup x=some .local) (hy:X.env.scope.names.lookup y=some .local) (ha:QA X [a,b] os)
    (hw:swappedStores [.Tuple [.Name x px,.Name y py] kt pt] (.Tuple [a,b] k2 pt2) X.env=pure (some [x,y])) (hio:i∉io) (hjo:j∉io) (hev:cm os=true:=by rfl)
    (hs:swapsWithSole [.Tuple [.Name x px,.Name y py] kt pt] (.Tuple [a,b] k2 pt2) pos.line X.env=pure false:=by rfl):QS X io (.Assign [.Tuple [.Name x px,.Name y py] kt pt] (.Tuple [a,b] k2 pt2) pos) (Rg i j os):=⟨PS.imp (iB hc hN hi hj hij hx hy ha.h hw hs) fun D σ H h=>by
  obtain ⟨g,m,P,r,fl,m',e,k⟩:=h;simp only [Rg.eq_def,Option.bind_eq_bind,Option.bind_eq_some_iff,Prod.exists] at e;obtain ⟨ds,m1,e1,e⟩:=e;split at e
  · rename_i d1 d2;split at e
    · rename_i hl;simp only [Bool.and_eq_true,decide_eq_true_eq] at hl;simp only [Option.some.injEq,Prod.mk.injEq] at e;obtain ⟨rfl,rfl⟩:=e;refine Ba os r e1 fun g' P' Pv vs H' s rs r1 n=>?_
      have rp:=AU.reps hev rs;unfold AG at rp;obtain ⟨v,vr,P1,P2,rfl,k1,k2,k3,k4⟩:=rp;unfold AG at k2;obtain ⟨w,wr,P3,P4,rfl,l1,l2,l3,l4⟩:=k2;unfold AG at l2;obtain ⟨rfl,l2⟩:=l2;refine ⟨v,w,rfl,?_⟩;obtain ⟨Pa,ra,sa⟩:=r1.setNew hl.1 k1 fun a q z=>n a z ((k4 a).mpr (.inl q))
      obtain ⟨Pb,rb,sb⟩:=ra.setNew (i:=j) (by show j < (m1.ρ.set i _).length;rw [List.length_set];exact hl.2) l1 fun a q z=>(sa a z).elim (fun z=>n a z ((k4 a).mpr (.inr ((l4 a).mpr (.inl q))))) fun z=>k3 a z ((l4 a).mpr (.inl q))
      refine k g' Pb _ H' (s.sub (fun _ q=>q) fun a q=>?_) (fun l hl=>?_) rb
      · rcases sb a q with z | z
        · rcases sa a z with z | z
          · exact .inl z
          · exact .inr ((k4 a).mpr (.inl z))
        · exact .inr ((k4 a).mpr (.inr ((l4 a).mpr (.inl z))))
      · rw [List.getElem?_set_ne fun (z:j=l)=>hjo (z▸hl),List.getElem?_set_ne fun (z:i=l)=>hio (z▸hl)]
    · cases e
  · cases e⟩
end
def We (c:Ev Bool) (b:Es):Nat->M->Option (Fl×M)
 | 0,_=>none
 | n+1,m=>do
  let (t,m1) <- c m
  if t then do
   let (fl,m2) <- b m1
   match fl with
   | .nx=>We c b n m2
   | .ct=>We c b n m2
   | .bk=>some (.nx,m2)
   | .rt d=>some (.rt d,m2)
  else some (.nx,m1)
theorem Xb {X:Cx} {io:List Nat} {c:Expr} {body:List Stmt} {pos:Pos} {t:Ev Bool} {f:Es} (n:Nat) (hp:PassesOwn (model X.prog X.w) X.A X.env X.xe) (hc:QT X c t) (hb:QSs X io body f):QS X io (.While c body [] pos) (We t f n):=⟨PS.imp (Xi hp hc.h hb.h) fun D σ H h=>by
 obtain ⟨g,m,P,r,fl,m',e,k⟩:=h;refine ⟨fun j σ1 H1=>∃ g1 m1 P1,Rel X.K g1 H1 m1 σ1 P1/\We t f j m1=some (fl,m')/\Gp X.K io g1 P1 H1 σ1 D m' fl,⟨n,g,m,P,r,e,k⟩,?_⟩;rintro j σ1 H1 ⟨g1,m1,P1,r1,e1,k1⟩;cases j with
 | zero=>cases e1
 | succ j =>
  simp only [We,Option.bind_eq_bind,Option.bind_eq_some_iff,Prod.exists] at e1;obtain ⟨b1,m2,e2,e1⟩:=e1;refine ⟨g1,m1,P1,r1,b1,m2,e2,fun g2 P2 H2 s2 r2=>?_⟩;cases b1 with
  | false =>
   rw [if_neg (by decide)] at e1;rw [if_neg (by decide)];simp only [Option.some.injEq,Prod.mk.injEq] at e1;obtain ⟨rfl,rfl⟩:=e1;exact k1 g2 P2 σ1 H2 s2 Io.refl r2
  | true =>
   rw [if_pos rfl] at e1 ⊢;simp only [Option.bind_eq_some_iff,Prod.exists] at e1;obtain ⟨fl2,m3,e3,e1⟩:=e1;refine ⟨fun σ' H'=>∃ g3 P3,Step g2 P2 H2 g3 P3 H'/\Io io σ1 σ'/\Rel X.K g3 H' m3 σ' P3/\(fl2=.nx\/fl2=.ct),?_,⟨g2,m2,P2,r2,fl2,m3,e3,?_⟩⟩
   ·rintro σ' H' ⟨g3,P3,s3,i3,r3,hf⟩;refine ⟨j,Nat.lt_succ_self j,g3,m3,P3,r3,?_,(k1.later s2 Io.refl).later s3 i3⟩;rcases hf with rfl | rfl<;>exact e1
   ·cases fl2 with
    | nx=>exact fun g3 P3 σ3 H3 s3 i3 r3=>⟨g3,P3,s3,i3,r3,.inl rfl⟩
    | ct=>exact fun g3 P3 σ3 H3 s3 i3 r3=>⟨g3,P3,s3,i3,r3,.inr rfl⟩
    | bk =>
     simp only [Option.some.injEq,Prod.mk.injEq] at e1;obtain ⟨rfl,rfl⟩:=e1;exact fun g3 P3 σ3 H3 s3 i3 r3=>k1 g3 P3 σ3 H3 (s2.trans s3) i3 r3
    | rt d =>
     simp only [Option.some.injEq,Prod.mk.injEq] at e1;obtain ⟨rfl,rfl⟩:=e1;exact fun g3 P3 Pv σ3 v H3 s3 i3 rv r3 n3=>k1 g3 P3 Pv σ3 v H3 (s2.trans s3) i3 rv r3 n3⟩
def HB (g:G) (H:Hp) (Ph:Fp) (g2:G) (H2:Hp):Prop:=∃ P P',Step g P H g2 P' H2/\FpOk g H P/\Bj Ph P
def Yl (K:W.Frag) (J:It) (ds:List Dt) (Ph:Fp) (g:G) (H:Hp):Prop:=∀ g2 H2,HB g H Ph g2 H2 ->
 (∀ i d,ds[i]?=some d->J.go i H2/\∀ x H3,J.yld i H2 x H3->CO K g2 H2 d x H3)/\∀ i,ds.length<=i->J.stop i H2
def pT (K:W.Frag) (src:Ev (List Dt)):TI:=fun σ H R=>∃ g m P,Rel K g H m σ P/\∃ ds m',src m=some (ds,m') /\
 ∀ g' P' Ph H' J,Step g P H g' (fun a=>P' a\/Ph a) H'->Rel K g' H' m' σ P'->Bj P' Ph->Yl K J ds Ph g' H'->R J H'
structure QI (X:Cx) (tg iter:Expr) (src:Ev (List Dt)):Prop where
 h:PI X tg iter (pT X.K src)
theorem PI.imp {X:Cx} {tg e:Expr} {t t':TI} (h:PI X tg e t) (k:∀ σ H R,t' σ H R->t σ H R):PI X tg e t':=fun pins s σ H R I q=>h pins s σ H R I (k σ H R q)
def forL (tg:Tg) (b:Es):List Dt->M->Option (Fl×M)
 | [],m=>some (.nx,m)
 | d::ds,m=>do
  let m1 <- tg d m
  let (fl,m2) <- b m1
  match fl with
  | .nx=>forL tg b ds m2
  | .ct=>forL tg b ds m2
  | .bk=>some (.nx,m2)
  | .rt d=>some (.rt d,m2)
def CY (src:Ev (List Dt)) (tg:Tg) (b:Es) (m:M):Option (Fl×M):=do
 let (ds,m1) <- src m
 forL tg b ds m1
theorem cf {K:W.Frag} {io js:List Nat} {g:TG} {ft:Tg} {f:Es} (ht:VB K js g ft) (hio:∀ i∈io,i∉js) {ds:List Dt} {m1 m':M} {fl:Fl} {D:Ends} {σ:St} {H1:Hp} {g1:G} {P1 Ph:Fp} {J:It}
    (r1:Rel K g1 H1 m1 σ P1) (n:Bj P1 Ph) (yl:Yl K J ds Ph g1 H1) (e:forL ft f ds m1=some (fl,m')) (k:Gp K io g1 P1 H1 σ D m' fl) :
    ∃ W:Nat->Nat->St->Hp->Prop,(∃ m,W 0 m σ H1)/\∀ i m σ H,W i m σ H ->
      (J.stop i H/\D.nx σ H)\/(J.go i H/\∃ N:St->Hp->Prop,(∀ σ' H',N σ' H'->∃ m',m' < m/\W (i+1) m' σ' H')/\∀ x H',J.yld i H x H'->g x σ H' fun σ2 H2=>gg K io f { D with nx:=N,ct:=N,bk:=D.nx } σ2 H2):=by
  refine ⟨fun i j σ' H'=>j=ds.length - i/\i<=ds.length/\∃ g2 m2 P2,Step g1 P1 H1 g2 P2 H'/\Io io σ σ'/\Rel K g2 H' m2 σ' P2/\forL ft f (ds.drop i) m2=some (fl,m'),⟨ds.length,by simp,Nat.zero_le _,g1,m1,P1,Step.refl,Io.refl,r1,by simpa using e⟩,?_⟩;rintro i j σ2 H2 ⟨rfl,hi,g2,m2,P2,s2,i2,r2,e2⟩;have st:HB g1 H1 Ph g2 H2:=⟨P1,P2,s2,r1.fpOk,fun a q z=>n a z q⟩
  by_cases hlt:i < ds.length
  · rw [List.drop_eq_getElem_cons hlt] at e2;simp only [forL,Option.bind_eq_bind,Option.bind_eq_some_iff,Prod.exists] at e2;obtain ⟨m3,e3,fl2,m4,e4,e2⟩:=e2;obtain ⟨go,yy⟩:=(yl g2 H2 st).1 i ds[i] (List.getElem?_eq_getElem hlt);refine .inr ⟨go,fun σ' H'=>∃ g5 P5,Step g1 P1 H1 g5 P5 H'/\Io io σ σ'/\Rel K g5 H' m4 σ' P5/\(fl2=.nx\/fl2=.ct),?_,fun x H3 hy=>?_⟩
    · rintro σ' H' ⟨g5,P5,s5,i5,r5,hf⟩;refine ⟨ds.length - (i+1),by omega,rfl,hlt,g5,m4,P5,s5,i5,r5,?_⟩;rcases hf with rfl | rfl<;>exact e2
    · obtain ⟨Pv,s3,h3,r3,n3⟩:=CO.go (Px:=BS) (Step.sub s2 (fun _ q=>q) fun _ q=>q.elim id False.elim) r2 (yy x H3 hy);refine ht g2 m2 m3 P2 ds[i] Pv x σ2 H3 _ r3 h3 n3 e3 fun P' σ' sp ip r'=>?_
      have s4:Step g1 P1 H1 g2 P' H3:=s3.sub (fun _ q=>q) sp;refine ⟨g2,m3,P',r',fl2,m4,e4,?_⟩;cases fl2 with
      | nx=>exact fun g5 P5 σ5 H5 s5 i5 r5=>⟨g5,P5,s4.trans s5,(i2.trans (ip.io hio)).trans i5,r5,.inl rfl⟩
      | ct=>exact fun g5 P5 σ5 H5 s5 i5 r5=>⟨g5,P5,s4.trans s5,(i2.trans (ip.io hio)).trans i5,r5,.inr rfl⟩
      | bk =>
        simp only [Option.some.injEq,Prod.mk.injEq] at e2;obtain ⟨rfl,rfl⟩:=e2;exact fun g5 P5 σ5 H5 s5 i5 r5=>k g5 P5 σ5 H5 (s4.trans s5) ((i2.trans (ip.io hio)).trans i5) r5
      | rt d =>
        simp only [Option.some.injEq,Prod.mk.injEq] at e2;obtain ⟨rfl,rfl⟩:=e2;exact fun g5 P5 Pv5 σ5 v H5 s5 i5 rv r5 n5=>k g5 P5 Pv5 σ5 v H5 (s4.trans s5) ((i2.trans (ip.io hio)).trans i5) rv r5 n5
  · have ei:i=ds.length:=by omega
    subst ei;rw [List.drop_length] at e2;simp only [forL,Option.some.injEq,Prod.mk.injEq] at e2;obtain ⟨rfl,rfl⟩:=e2;exact .inl ⟨(yl g2 H2 st).2 _ (Nat.le_refl _),k g2 P2 σ2 H2 s2 i2 r2⟩
theorem CG {X:Cx} {io js:List Nat} {tg iter:Expr} {body:List Stmt} {src:Ev (List Dt)} {g:TG} {ft:Tg} {f:Es} {pos:Pos} (hp:PassesOwn (model X.prog X.w) X.A X.env X.xe) (hc:X.calm=true) (hi:QI X tg iter src) (hg:PG X tg g) (ht:VB X.K js g ft) (hio:∀ i∈io,i∉js) (hb:QSs X io body f)
    (hs:∀ x,foldedSetIterable iter X.env x=pure x:=by intro _;rfl):QS X io (.For tg iter body [] pos) (CY src ft f):=⟨PS.imp (iC hp hc hi.h hg hb.h hs) fun D σ H h=>by
  obtain ⟨g0,m,P,r,fl,m',e,k⟩:=h;simp only [CY,Option.bind_eq_bind,Option.bind_eq_some_iff,Prod.exists] at e;obtain ⟨ds,m1,e1,e⟩:=e;refine ⟨g0,m,P,r,ds,m1,e1,fun g1 P1 Ph H1 J s r1 n yl=>?_⟩;exact cf ht hio r1 n yl e (k.later (s.sub (fun _ q=>q) fun _ q=>.inl q) Io.refl)⟩
def items:Dt->Option (List Dt)
 | .tup ds=>bif cps ds then some ds else none
 | .lst _ ds=>bif cps ds then some ds else none
 | .scr ns=>some (ns.map .int)
 | _=>none
def nN (f:Ev Dt) (m:M):Option (List Dt×M):=do
 let (d,m') <- f m
 let ds <- items d
 some (ds,m')
theorem LO {ds:List Dt} (h:cps ds=true):∀ {i:Nat} {d:Dt},ds[i]?=some d->d.cp=true:=by
 induction ds with
 | nil=>intro i d e;simp at e
 | cons x xs ih =>
  unfold cps at h;rw [Bool.and_eq_true] at h;intro i d e;cases i with
  | zero=>simp at e;subst e;exact h.1
  | succ i=>exact ih h.2 (i:=i) (by simpa using e)
section
variable {K:W.Frag} {g g2:G} {H H2:Hp}
theorem HB.rep {Ph:Fp} {d:Dt} {v:V} (s:HB g H Ph g2 H2) (h:Rep K g H d v Ph):Rep K g2 H2 d v Ph:=by
 obtain ⟨P,P',st,ok,n⟩:=s;exact h.held st ok n
theorem CO.old {d:Dt} {v:V} (h:Rep K g H d v BS):CO K g H d v H:=⟨fun _ _ q=>q,BS,h,fun _ z=>z.elim⟩
theorem aw {a:Addr} {o:Bool} {ds:List Dt} {Ph:Fp} (h:Rep K g H (.lst o ds) (.ref a) Ph) (c:cps ds=true):Yl K (nV K a) ds Ph g H:=by
 intro g2 H2 st;obtain ⟨b,vs,P',e,h1,h2⟩:=(st.rep h).lst;cases e;have sq:HC K H2 a vs:=.inl (.inl h1);refine ⟨fun i d e=>?_,fun i hi=>⟨vs,sq,by rw [<- h2.len];exact hi⟩⟩;obtain ⟨v,P,ev,rv,_⟩:=h2.get e;refine ⟨⟨vs,v,sq,ev⟩,fun x H3 y=>?_⟩;obtain ⟨rfl,y⟩:=y;have:=y vs sq;rw [ev] at this;cases this;exact CO.old (rv.cp (LO c e))
theorem gR {a:Addr} {ds:List Dt} {Ph:Fp} (h:Rep K g H (.tup ds) (.ref a) Ph) (c:cps ds=true):Yl K (pR K a) ds Ph g H:=by
 intro g2 H2 st;obtain ⟨b,vs,e,h1,h2⟩:=(st.rep h).tup;cases e;refine ⟨fun i d e=>?_,fun i hi=>⟨vs,h1,by rw [<- h2.len];exact hi⟩⟩;obtain ⟨v,P,ev,rv,_⟩:=h2.get e;refine ⟨⟨vs,v,h1,ev⟩,fun x H3 y=>?_⟩;obtain ⟨rfl,y⟩:=y;have:=y vs h1;rw [ev] at this;cases this;exact CO.old (rv.cp (LO c e))
theorem gT {a:Addr} {ns:List Int} {Ph:Fp} (h:Rep K g H (.scr ns) (.ref a) Ph):Yl K (nV K a) (ns.map .int) Ph g H:=by
 intro g2 H2 st;obtain ⟨b,e,sq⟩:=(st.rep h).scr;cases e;refine ⟨fun i d e=>?_,fun i hi=>⟨_,sq,by rw [List.length_map] at hi ⊢;exact hi⟩⟩;rw [List.getElem?_map] at e;cases q:ns[i]? with
 | none=>rw [q] at e;cases e
 | some k =>
  rw [q] at e;cases e;refine ⟨⟨_,.int k,sq,by rw [List.getElem?_map,q];rfl⟩,fun x H3 y=>?_⟩;obtain ⟨rfl,y⟩:=y;have:=y _ sq;rw [List.getElem?_map,q] at this;cases this;exact CO.old (by unfold Rep;exact ⟨rfl,fun _ z=>z⟩)
theorem Qe {lo:Int} {n:Nat} {Ph:Fp}:Yl K (nA lo n) ((List.range n).map fun k=>.int (lo+(k:Nat))) Ph g H:=by
 intro g2 H2 st;refine ⟨fun i d e=>?_,fun i hi=>by rw [List.length_map,List.length_range] at hi;exact hi⟩;rw [List.getElem?_map] at e;cases q:(List.range n)[i]? with
 | none=>rw [q] at e;cases e
 | some k =>
  rw [q] at e;cases e;have hi:i < n:=by have:=(List.getElem?_eq_some_iff.mp q).1;simpa using this
  have:k=i:=by rw [List.getElem?_range hi] at q;exact (Option.some.inj q).symm
  subst this;refine ⟨hi,fun x H3 y=>?_⟩;obtain ⟨rfl,rfl⟩:=y;exact CO.old (by unfold Rep;exact ⟨rfl,fun _ z=>z⟩)
end
section
variable {X:Cx} {tg e a b:Expr} {f:Ev Dt} {oa ob:Om} {p pos:Pos}
noncomputable def small (i:Int):Bool:=-1000000000<=i && i<=1000000000
def Bf (o:Om) (m:M):Option (List Dt×M):=do
 let (ds,m') <- AV [o] m
 match ds with
 | [.int n]=>bif small n then some ((List.range n.toNat).map fun k=>.int (0+(k:Nat)),m') else none
 | _=>none
def KC (o o':Om) (m:M):Option (List Dt×M):=do
 let (ds,m') <- AV [o,o'] m
 match ds with
 | [.int i,.int n]=>bif small i && small n then some ((List.range (n - i).toNat).map fun k=>.int (i+(k:Nat)),m') else none
 | _=>none
theorem Lj {i:Int} (h:small i=true):-1000000000<=i/\i<=1000000000:=by
 unfold small at h;rw [Bool.and_eq_true,decide_eq_true_eq,decide_eq_true_eq] at h;exact h
theorem BZ (hg:Gl X "range") (hm:X.mg "range" = none) (ha:QO X a oa) (hs:starEach [a] X.env=[(false,eval a X.env)]:=by rfl):QI X tg (.Call (.Name "range" p) [a] [] pos) (Bf oa):=⟨PI.imp (Vc hg hm (AA ha AE hs).h hs) fun σ H R q=>by
 obtain ⟨g,m,P,r,ds,m',e,k⟩:=q;simp only [Bf.eq_def,Option.bind_eq_bind,Option.bind_eq_some_iff,Prod.exists] at e;obtain ⟨es,m1,e1,e⟩:=e;split at e
 ·rename_i n;cases c:small n with
  | false=>rw [c] at e;cases e
  | true =>
   rw [c,cond_true] at e;simp only [Option.some.injEq,Prod.mk.injEq] at e;obtain ⟨rfl,rfl⟩:=e;have hn:=Lj c;refine Ba [oa] r e1 fun g' P' Pv vs H' s rs r1 nn=>?_
   have ra:=AU.ra r1 rs;unfold RA at ra;obtain ⟨v,vr,Pr,rfl,h1,h2⟩:=ra;unfold RA at h2;subst h2;rw [Ap h1];exact ⟨n,rfl,by omega,by omega,k g' P' BS H' _ (s.sub (fun _ q=>q) fun _ q=>q.elim .inl False.elim) r1 (fun _ _ z=>z) Qe⟩
 ·cases e⟩
theorem bV (hg:Gl X "range") (hm:X.mg "range" = none) (ha:QO X a oa) (hb:QO X b ob) (hs:starEach [a,b] X.env=[(false,eval a X.env),(false,eval b X.env)]:=by rfl) (hs2:starEach [b] X.env=[(false,eval b X.env)]:=by rfl):QI X tg (.Call (.Name "range" p) [a,b] [] pos) (KC oa ob):=⟨PI.imp (Vb hg hm (AA ha (AA hb AE hs2) (by rw [hs,hs2])).h hs hs2) fun σ H R q=>by
 obtain ⟨g,m,P,r,ds,m',e,k⟩:=q;simp only [KC.eq_def,Option.bind_eq_bind,Option.bind_eq_some_iff,Prod.exists] at e;obtain ⟨es,m1,e1,e⟩:=e;split at e
 ·rename_i i n;cases c:small i && small n with
  | false=>rw [c] at e;cases e
  | true =>
   rw [c,cond_true] at e;simp only [Option.some.injEq,Prod.mk.injEq] at e;obtain ⟨rfl,rfl⟩:=e;rw [Bool.and_eq_true] at c;have hn:=Lj c.1;have hn2:=Lj c.2;refine Ba [oa,ob] r e1 fun g' P' Pv vs H' s rs r1 nn=>?_
   have ra:=AU.ra r1 rs;unfold RA at ra;obtain ⟨v,vr,Pr,rfl,h1,h2⟩:=ra;unfold RA at h2;obtain ⟨v2,vr,Pr2,rfl,h2,h3⟩:=h2;unfold RA at h3;subst h3;rw [Ap h1,Ap h2];exact ⟨i,n,rfl,by omega,k g' P' BS H' _ (s.sub (fun _ q=>q) fun _ q=>q.elim .inl False.elim) r1 (fun _ _ z=>z) Qe⟩
 ·cases e⟩
end
noncomputable def DP (js:List Nat) (ρ:List (Option Dt)):List (Option Dt):=js.foldl (fun ρ j=>ρ.set j none) ρ
def M.blank (js:List Nat) (m:M):M:={ m with ρ:=DP js m.ρ }
def rst (js:List Nat) (ρ0:List (Option Dt)) (ρ:List (Option Dt)):List (Option Dt):=js.foldl (fun ρ j=>match ρ0[j]? with | some (some d)=>bif d.cp then ρ.set j (some d) else ρ | _=>ρ) (DP js ρ)
def Me (js:List Nat) (tg:Tg) (f:Ev Dt):List Dt->M->Option (List Dt×M)
 | [],m=>some ([],m)
 | d::ds,m=>do
  let m1 <- tg d (m.blank js)
  let (x,m2) <- f m1
  let (xs,m3) <- Me js tg f ds m2
  some (x::xs,m3)
def BO (src:Ev (List Dt)) (js:List Nat) (tg:Tg) (f:Ev Dt) (m:M):Option (Dt×M):=do
 let (ds,m1) <- src m
 if ds.length<=1000000 then do
  let (xs,m2) <- Me js tg f ds m1
  some (.lst true xs,{ m2 with ρ:=rst js m1.ρ m2.ρ })
 else none
section
variable {K:W.Frag} {g:G} {H:Hp}
theorem AX.agree:∀ {ρ:List (Option Dt)} {σ σ':St} {P:Fp},AX K g H ρ σ P->σ'.length=σ.length->(∀ (i:Nat) (d:Dt),ρ[i]?=some (some d)->σ'[i]?=σ[i]?)->AX K g H ρ σ' P
 | [],σ,σ',P,h,l,_=>by
  unfold AX at h ⊢;obtain ⟨rfl,n⟩:=h;exact ⟨List.eq_nil_of_length_eq_zero (by simpa using l),n⟩
 | none::ρ,σ,σ',P,h,l,k=>by
  unfold AX at h ⊢;obtain ⟨x,r,rfl,h⟩:=h;cases σ' with
  | nil=>simp at l
  | cons y σ'=>exact ⟨y,σ',rfl,AX.agree h (by simpa using l) fun i d e=>by have:=k (i+1) d (by simpa using e);simpa using this⟩
 | some d::ρ,σ,σ',P,h,l,k=>by
  unfold AX at h ⊢;obtain ⟨v,r,P1,P2,rfl,h1,h2,h3,h4⟩:=h;cases σ' with
  | nil=>simp at l
  | cons y σ' =>
   have hy:y=some v:=by have:=k 0 d rfl;simpa using this
   subst hy;exact ⟨v,σ',P1,P2,rfl,h1,AX.agree h2 (by simpa using l) fun i d e=>by have:=k (i+1) d (by simpa using e);simpa using this,h3,h4⟩
theorem AX.blank:∀ (js:List Nat) {ρ:List (Option Dt)} {σ:St} {P:Fp},AX K g H ρ σ P->∃ P',AX K g H (DP js ρ) (L2.blank js σ) P'/\∀ a,P' a->P a
 | [],ρ,σ,P,h=>⟨P,h,fun _ q=>q⟩
 | j::js,ρ,σ,P,h=>by
  obtain ⟨P2,h2,s⟩:=h.store (i:=j) none;obtain ⟨P3,h3,s3⟩:=AX.blank js h2;exact ⟨P3,h3,fun a q=>s a (s3 a q)⟩
theorem Mt (js:List Nat):∀ (ρ:List (Option Dt)) (i:Nat) (d:Dt),(DP js ρ)[i]?=some (some d)->i∉js:=by
 induction js with
 | nil=>intro ρ i d _;simp
 | cons j js ih =>
  intro ρ i d e;have h:=ih (ρ.set j none) i d e;intro z;rcases List.mem_cons.mp z with z | z
  ·subst z
   -- a slot that is blank stays blank
   have:∀ (js:List Nat) (ρ:List (Option Dt)),ρ[i]?=some none\/ρ[i]?=none->(DP js ρ)[i]?=some none\/(DP js ρ)[i]?=none:=by
    intro js
    induction js with
    | nil=>intro ρ h;exact h
    | cons k ks ihk =>
     intro ρ h;refine ihk (ρ.set k none) ?_
     by_cases hk:k=i
     ·subst hk
      by_cases hl:k < ρ.length
      ·exact .inl (List.getElem?_set_self hl)
      ·exact .inr (by rw [List.getElem?_eq_none_iff,List.length_set];omega)
     ·rw [List.getElem?_set_ne hk];exact h
   have hb:=this js (ρ.set i none) (by
    by_cases hl:i < ρ.length
    ·exact .inl (List.getElem?_set_self hl)
    ·exact .inr (by rw [List.getElem?_eq_none_iff,List.length_set];omega))
   rcases hb with q | q
   ·have e':(DP js (ρ.set i none))[i]?=some (some d):=e;rw [q] at e';cases e'
   ·have e':(DP js (ρ.set i none))[i]?=some (some d):=e;rw [q] at e';cases e'
  ·exact h z
theorem GM (js:List Nat):∀ (σ:St) (i:Nat),i∉js->(L2.blank js σ)[i]?=σ[i]?:=by
 induction js with
 | nil=>intro σ i _;rfl
 | cons j js ih =>
  intro σ i h;show (L2.blank js (σ.set j none))[i]?=_;rw [ih _ i fun z=>h (List.mem_cons_of_mem _ z),List.getElem?_set_ne fun z=>h (by rw [<- z];exact List.mem_cons_self)]
theorem Rel.blankTo {m:M} {σ σ2:St} {P:Fp} (js:List Nat) (h:Rel K g H m σ2 P) (hl:σ2.length=σ.length) (ha:∀ i,i∉js->σ2[i]?=σ[i]?):∃ P',Rel K g H (m.blank js) (L2.blank js σ) P'/\∀ a,P' a->P a:=by
 obtain ⟨zd,P1,P2,h1,h2,h3,h4⟩:=h;obtain ⟨P3,k1,s⟩:=AX.blank js h1;refine ⟨fun a=>P3 a\/P2 a,⟨zd,P3,P2,k1.agree ?_ fun i d e=>?_,h2,fun a q z=>h3 a (s a q) z,fun _=>Iff.rfl⟩,fun a q=>(h4 a).mpr (q.elim (fun q=>.inl (s a q)) .inr)⟩
 ·rw [L2.blank_length,L2.blank_length,hl]
 ·have hi:=Mt js _ i d e;rw [GM js _ i hi,GM js _ i hi,ha i hi]
theorem AX.putcp {ρ:List (Option Dt)} {σ:St} {P:Fp} {j:Nat} {d:Dt} {v:V} (h:AX K g H ρ σ P) (e:σ[j]?=some (some v)) (k:Rep K g H d v BS):∃ P',AX K g H (ρ.set j (some d)) σ P'/\∀ a,P' a->P a:=by
 obtain ⟨P2,h2,s⟩:=h.store (i:=j) (some v);have hj:j < σ.length:=(List.getElem?_eq_some_iff.mp e).1;have hs:σ.set j (some v)=σ:=by
  apply List.ext_getElem?;intro i
  by_cases hi:j=i
  ·subst hi;rw [List.getElem?_set_self hj,e]
  ·rw [List.getElem?_set_ne hi]
 rw [hs] at h2;have hl:j < ρ.length:=by rw [h.len];exact hj
 have:=h2.put (i:=j) (d:=d) (List.getElem?_set_self hl) e k fun _ z=>z.elim
 rw [List.set_set] at this;exact ⟨_,this,fun a q=>q.elim False.elim (s a)⟩
theorem AX.rst {ρ0 ρ:List (Option Dt)} {σ:St} {P:Fp} (js:List Nat) (h:AX K g H (DP js ρ) σ P) (old:∀ (j:Nat) (d:Dt),ρ0[j]?=some (some d)->d.cp=true->∃ v,σ[j]?=some (some v)/\Rep K g H d v BS) :
    ∃ P',AX K g H (Q.rst js ρ0 ρ) σ P'/\∀ a,P' a->P a:=by
  unfold Q.rst;generalize DP js ρ=ρ1 at h
  induction js generalizing ρ1 P with
  | nil=>exact ⟨P,h,fun _ q=>q⟩
  | cons j js ih =>
    simp only [List.foldl_cons];cases e:ρ0[j]? with
    | none=>exact ih _ h
    | some o =>
      cases o with
      | none=>exact ih _ h
      | some d =>
        cases c:d.cp with
        | false=>simp only [c,cond_false];exact ih _ h
        | true =>
          simp only [c,cond_true];obtain ⟨v,ev,rv⟩:=old j d e c;obtain ⟨P2,h2,s⟩:=h.putcp ev rv;obtain ⟨P3,h3,s3⟩:=ih _ h2;exact ⟨P3,h3,fun a q=>s a (s3 a q)⟩
end
noncomputable abbrev Fn:=List Dt->List Ob->Option (Dt×List Dt×List Ob)
def Bk (K:W.Frag) (g:G) (H:Hp) (vs:List V):List Nat->List Dt->Fp->Prop
 | [],bs,P=>bs=[]/\∀ a,¬ P a
 | i::io,bs,P=>∃ b br v P1 P2,bs=b::br/\vs[i]?=some v/\Rep K g H b v P1/\Bk K g H vs io br P2/\Bj P1 P2/\∀ a,P a↔P1 a\/P2 a
def ER (K:W.Frag) (n:Nat) (io:List Nat) (Φ:Fn):Sp:=fun vs H Q _=>∃ g ds S Pa Ps,ds.length=n/\Zd g H/\AG K g H ds vs Pa/\gO K g H S Ps/\Bj Pa Ps/\∃ d bs S',Φ ds S=some (d,bs,S') /\
 ∀ g' H' v Pv Pb Ps',Step g (fun a=>Pa a\/Ps a) H g' (fun a=>Pv a\/Pb a\/Ps' a) H'->Zd g' H'->Rep K g' H' d v Pv->Bk K g' H' vs io bs Pb->gO K g' H' S' Ps'->Bj Pv Pb->Bj Pv Ps'->Bj Pb Ps'->Q v H'
noncomputable def EO (io:List Nat) (ρ:List (Option Dt)):Option (List Dt):=match io with
 | []=>some []
 | i::io=>do
  let b <- (ρ[i]?).join
  let bs <- EO io ρ
  some (b::bs)
def Bo (N:Nat) (io:List Nat) (body:Es) (ds:List Dt) (S:List Ob):Option (Dt×List Dt×List Ob):=do
 let (fl,m') <- body ⟨ds.map some++List.replicate (N - ds.length) none,S⟩
 let bs <- EO io m'.ρ
 match fl with
 | .rt d=>some (d,bs,m'.S)
 | .nx=>some (.non,bs,m'.S)
 | _=>none
section
variable {K:W.Frag} {g:G} {H:Hp}
theorem AX.nones:∀ (n:Nat),AX K g H (List.replicate n none) (List.replicate n none) BS
 | 0=>by unfold AX;exact ⟨rfl,fun _ z=>z⟩
 | n+1=>by show AX K g H (none::List.replicate n none) (none::List.replicate n none) BS;unfold AX;exact ⟨none,_,rfl,AX.nones n⟩
theorem AX.start:∀ {ds:List Dt} {vs:List V} {P:Fp} (n:Nat),AG K g H ds vs P->AX K g H (ds.map some++List.replicate n none) (vs.map some++List.replicate n none) P
 | [],vs,P,n,h=>by
  unfold AG at h;obtain ⟨rfl,h⟩:=h;exact (AX.nones n).iff fun a=>⟨fun z=>(h a z).elim,fun z=>z.elim⟩
 | d::ds,vs,P,n,h=>by
  unfold AG at h;obtain ⟨v,r,P1,P2,rfl,h1,h2,h3,h4⟩:=h;show AX K g H (some d::(ds.map some++List.replicate n none)) (some v::(r.map some++List.replicate n none)) P;unfold AX;exact ⟨v,_,P1,P2,rfl,h1,AX.start n h2,h3,h4⟩
theorem aK {σ0:St} {vs:List V}:∀ {io:List Nat} {ρ:List (Option Dt)} {σ:St} {P:Fp} {bs:List Dt},io.Nodup->EO io ρ=some bs->AX K g H ρ σ P->(∀ i∈io,σ[i]?=(vs[i]?).map some)->∃ Pb,Bk K g H vs io bs Pb/\∀ a,Pb a->P a
 | [],ρ,σ,P,bs,_,e,h,_=>by
  simp only [EO,Option.some.injEq] at e;subst e;exact ⟨BS,by unfold Bk;exact ⟨rfl,fun _ z=>z⟩,fun _ z=>z.elim⟩
 | i::io,ρ,σ,P,bs,nd,e,h,hv=>by
  simp only [EO,Option.bind_eq_bind,Option.bind_eq_some_iff,Option.some.injEq] at e;obtain ⟨b,e1,br,e2,rfl⟩:=e;obtain ⟨v,P1,P2,ev,k1,k2,k3,k4⟩:=h.take (CJ e1);rw [List.nodup_cons] at nd;have e2':EO io (ρ.set i none)=some br:=by
   rw [<- e2];have:∀ (io:List Nat),i∉io->EO io (ρ.set i none)=EO io ρ:=by
    intro io
    induction io with
    | nil=>intro _;rfl
    | cons j io ih =>
     intro hj;have hne:i≠j:=fun z=>hj (by rw [z];exact List.mem_cons_self)
     simp only [EO];rw [List.getElem?_set_ne hne,ih fun z=>hj (List.mem_cons_of_mem _ z)]
   exact this io nd.1
  obtain ⟨Pb,hb,sb⟩:=aK (σ0:=σ0) nd.2 e2' k2 fun j hj=>hv j (List.mem_cons_of_mem _ hj)
  have hvi:vs[i]?=some v:=by
   have:=hv i List.mem_cons_self;rw [ev] at this;cases q:vs[i]? with
   | none=>rw [q] at this;cases this
   | some w=>rw [q] at this;cases this;rfl
  refine ⟨fun a=>P1 a\/Pb a,?_,fun a q=>(k4 a).mpr (q.elim .inl fun q=>.inr (sb a q))⟩;unfold Bk;exact ⟨b,br,v,P1,Pb,rfl,hvi,k1,hb,fun a q z=>k3 a q (sb a z),fun _=>Iff.rfl⟩
end
theorem FD {P:Program} {w:World} {K:W.Frag} {mg:Str->Option Value} {base:Heap} {x qual:Str} {st:Stmt} {f:Addr} {fd:FuncData} {N ps:List Str} {k:Nat} {io:List Nat} {Φ:Fn} (F:Fun K x qual st f fd) (S:FnScope N ps (AS st)) (nd:io.Nodup) (hio:∀ i∈io,i < ps.length)
    (hbody:∃ body:Es,(∀ (cdv:Value) (A:Around) (outer:List Env) (s:Shared) (H:Hp) (E:XK),Room k (A.deeper (PyProof.Rows.envOfC qual (AS st) s.heap.objs.size f cdv))->QSs (TN IJ P w K mg base N qual (AS st) f cdv A outer s H E).nox io (Di st) body) /\
      ∀ ds S r,ds.length=ps.length->Φ ds S=some r->Bo N.length io body ds S=some r):FnOk P w K mg base IJ (k+1) f fd ps (ER K ps.length io Φ):=by
  obtain ⟨body,hb,hΦ⟩:=hbody;refine F.ok S (fun vs H Q E h=>?_) fun cdv A outer s H vs Q E hr h=>⟨_,(hb cdv A outer s H E hr).h,?_⟩
  · obtain ⟨g,ds,S,Pa,Ps,hn,_,h1,_⟩:=h;rw [<- h1.len];exact hn
  · obtain ⟨g,ds,S',Pa,Ps,hn,zd,h1,h2,h3,d,bs,S'',e,k⟩:=h;have e2:=hΦ ds S' _ hn e;simp only [Bo,Option.bind_eq_bind,Option.bind_eq_some_iff,Prod.exists] at e2;obtain ⟨fl,m',e3,bs',e4,e2⟩:=e2;have r0:Rel K g H ⟨ds.map some++List.replicate (N.length - ds.length) none,S'⟩ (L2.start N vs) fun a=>Pa a\/Ps a:=by
      refine ⟨zd,Pa,Ps,?_,h2,h3,fun _=>Iff.rfl⟩;unfold L2.start;rw [<- h1.len];exact AX.start _ h1
    refine ⟨g,_,_,r0,fl,m',e3,?_⟩;have hv:∀ σ',Io io (L2.start N vs) σ'->∀ i∈io,σ'[i]?=(vs[i]?).map some:=fun σ' hi i hm=>by
      rw [hi i hm];unfold L2.start;have hl:i < vs.length:=by rw [<- h1.len,hn];exact hio i hm
      rw [List.getElem?_append_left (by simpa using hl),List.getElem?_map]
    cases fl with
    | nx =>
      simp only [Option.some.injEq,Prod.mk.injEq] at e2;obtain ⟨rfl,rfl,rfl⟩:=e2;intro g' P' σ' H' s' i' r';obtain ⟨zd',P1,P2,q1,q2,q3,q4⟩:=r';obtain ⟨Pb,hbk,sb⟩:=aK (σ0:=σ') nd e4 q1 (hv σ' i');exact k g' H' .non BS Pb P2 (s'.sub (fun _ q=>q) fun a q=>(q4 a).mpr (q.elim False.elim fun q=>q.elim (fun q=>.inl (sb a q)) .inr)) zd' (by unfold Rep;exact ⟨rfl,fun _ z=>z⟩) hbk q2 (fun _ z=>z.elim) (fun _ z=>z.elim) fun a q z=>q3 a (sb a q) z
    | rt d' =>
      simp only [Option.some.injEq,Prod.mk.injEq] at e2;obtain ⟨rfl,rfl,rfl⟩:=e2;intro g' P' Pv σ' v H' s' i' rv r' n;obtain ⟨zd',P1,P2,q1,q2,q3,q4⟩:=r';obtain ⟨Pb,hbk,sb⟩:=aK (σ0:=σ') nd e4 q1 (hv σ' i');exact k g' H' v Pv Pb P2 (s'.sub (fun _ q=>q) fun a q=>q.elim .inr fun q=>.inl ((q4 a).mpr (q.elim (fun q=>.inl (sb a q)) .inr))) zd' rv hbk q2 (fun a q z=>n a ((q4 a).mpr (.inl (sb a z))) q) (fun a q z=>n a ((q4 a).mpr (.inr z)) q) fun a q z=>q3 a (sb a q) z
    | ct=>cases e2
    | bk=>cases e2
noncomputable def XT:List Om->List Nat
 | []=>[]
 | .ev _::os=>XT os
 | .rf j::os=>j::XT os
def cv (os:List Om) (ρ:List (Option Dt)):List (Option Dt):=(XT os).foldl (fun ρ j=>ρ.set j none) ρ
noncomputable def Ms (os:List Om):List Nat->List Dt->List (Option Dt)->List (Option Dt)
 | i::io,b::bs,ρ=>Ms os io bs (match os[i]? with | some (.rf j)=>ρ.set j (some b) | _=>ρ)
 | _,_,ρ=>ρ
def AW (Φ:Fn) (n:Nat) (io:List Nat) (os:List Om) (m:M):Option (Dt×M):=do
 let (ds,m1) <- AV os m
 if ds.length=n then do
  let (d,bs,S') <- Φ ds m1.S
  some (d,⟨Ms os io bs (cv os m1.ρ),S'⟩)
 else none
section
variable {K:W.Frag} {g:G} {H:Hp} {σ:St}
theorem AU.other {i:Nat} {x:Option Dt} {ρ:List (Option Dt)}:∀ {os:List Om} {ds:List Dt} {vs:List V} {P:Fp},i∉XT os->AU K g H ρ σ os ds vs P->AU K g H (ρ.set i x) σ os ds vs P
 | [],ds,vs,P,_,h=>by unfold AU at h ⊢;exact h
 | .ev f::os,ds,vs,P,hi,h=>by
  unfold AU at h ⊢;obtain ⟨d,dr,v,vr,P1,P2,e1,e2,h1,h2,h3,h4⟩:=h;exact ⟨d,dr,v,vr,P1,P2,e1,e2,h1,AU.other (by unfold XT at hi;exact hi) h2,h3,h4⟩
 | .rf j::os,ds,vs,P,hi,h=>by
  unfold AU at h ⊢;unfold XT at hi;obtain ⟨d,dr,v,vr,e1,e2,h1,h2,h3⟩:=h;exact ⟨d,dr,v,vr,e1,e2,h1,by rw [List.getElem?_set_ne fun z=>hi (by rw [z];exact List.mem_cons_self)];exact h2,AU.other (fun z=>hi (List.mem_cons_of_mem _ z)) h3⟩
theorem AU.takeAll:∀ {os:List Om} {ρ:List (Option Dt)} {ds:List Dt} {vs:List V} {P Pv:Fp},(XT os).Nodup->AU K g H ρ σ os ds vs Pv->AX K g H ρ σ P->Bj P Pv ->
    ∃ Pa Pr,AG K g H ds vs Pa/\AX K g H (cv os ρ) σ Pr/\Bj Pa Pr/\(∀ a,Pa a->P a\/Pv a)/\(∀ a,Pr a->P a)
  | [],ρ,ds,vs,P,Pv,_,h,r,_=>by
    unfold AU at h;obtain ⟨rfl,rfl,n⟩:=h;exact ⟨BS,P,AG.nil,r,fun _ z=>z.elim,fun _ z=>z.elim,fun _ q=>q⟩
  | .ev f::os,ρ,ds,vs,P,Pv,nd,h,r,dj=>by
    unfold AU at h;obtain ⟨d,dr,v,vr,P1,P2,rfl,rfl,h1,h2,h3,h4⟩:=h;obtain ⟨Pa,Pr,k1,k2,k3,k4,k5⟩:=AU.takeAll (by unfold XT at nd;exact nd) h2 r fun a q z=>dj a q ((h4 a).mpr (.inr z))
    refine ⟨fun a=>P1 a\/Pa a,Pr,AG.cons h1 k1 fun a q z=>(k4 a z).elim (fun z=>dj a z ((h4 a).mpr (.inl q))) fun z=>h3 a q z,k2,fun a q z=>q.elim (fun q=>dj a (k5 a z) ((h4 a).mpr (.inl q))) fun q=>k3 a q z,fun a q=>q.elim (fun q=>.inr ((h4 a).mpr (.inl q))) fun q=>(k4 a q).elim .inl fun q=>.inr ((h4 a).mpr (.inr q)),k5⟩
  | .rf j::os,ρ,ds,vs,P,Pv,nd,h,r,dj=>by
    unfold AU at h;obtain ⟨d,dr,v,vr,rfl,rfl,h1,h2,h3⟩:=h;unfold XT at nd;rw [List.nodup_cons] at nd;obtain ⟨v',P1,P2,ev,q1,q2,q3,q4⟩:=r.take h2;rw [h1] at ev;cases ev;obtain ⟨Pa,Pr,k1,k2,k3,k4,k5⟩:=AU.takeAll nd.2 (AU.other nd.1 h3) q2 fun a q z=>dj a ((q4 a).mpr (.inr q)) z
    refine ⟨fun a=>P1 a\/Pa a,Pr,AG.cons q1 k1 fun a q z=>(k4 a z).elim (fun z=>q3 a q z) fun z=>dj a ((q4 a).mpr (.inl q)) z,k2,fun a q z=>q.elim (fun q=>q3 a q (k5 a z)) fun q=>k3 a q z,fun a q=>q.elim (fun q=>.inl ((q4 a).mpr (.inl q))) fun q=>(k4 a q).elim (fun q=>.inl ((q4 a).mpr (.inr q))) .inr,fun a q=>(q4 a).mpr (.inr (k5 a q))⟩
theorem AX.putAny {ρ:List (Option Dt)} {P P1:Fp} {j:Nat} {d:Dt} {v:V} (h:AX K g H ρ σ P) (e:σ[j]?=some (some v)) (k:Rep K g H d v P1) (n:Bj P1 P):∃ P',AX K g H (ρ.set j (some d)) σ P'/\∀ a,P' a->P a\/P1 a:=by
 obtain ⟨P2,h2,s⟩:=h.store (i:=j) (some v);have hj:j < σ.length:=(List.getElem?_eq_some_iff.mp e).1;have hs:σ.set j (some v)=σ:=by
  apply List.ext_getElem?;intro i
  by_cases hi:j=i
  ·subst hi;rw [List.getElem?_set_self hj,e]
  ·rw [List.getElem?_set_ne hi]
 rw [hs] at h2;have hl:j < ρ.length:=by rw [h.len];exact hj
 have:=h2.put (i:=j) (d:=d) (List.getElem?_set_self hl) e k fun a q z=>n a q (s a z)
 rw [List.set_set] at this;exact ⟨_,this,fun a q=>q.elim .inr fun q=>.inl (s a q)⟩
theorem AU.slot {g:G} {H:Hp} {ρ:List (Option Dt)}:∀ {os:List Om} {ds:List Dt} {vs:List V} {P:Fp} {i j:Nat},AU K g H ρ σ os ds vs P->os[i]?=some (.rf j)->∀ v,vs[i]?=some v->σ[j]?=some (some v)
 | [],_,_,_,i,j,_,e=>by simp at e
 | .ev f::os,ds,vs,P,i,j,h,e=>by
  unfold AU at h;obtain ⟨d,dr,v,vr,P1,P2,rfl,rfl,h1,h2,h3,h4⟩:=h;cases i with
  | zero=>simp at e
  | succ i=>intro v' ev;exact AU.slot h2 (by simpa using e) v' (by simpa using ev)
 | .rf l::os,ds,vs,P,i,j,h,e=>by
  unfold AU at h;obtain ⟨d,dr,v,vr,rfl,rfl,h1,h2,h3⟩:=h;cases i with
  | zero =>
   simp at e;subst e;intro v' ev;simp at ev;subst ev;exact h1
  | succ i=>intro v' ev;exact AU.slot h3 (by simpa using e) v' (by simpa using ev)
theorem Us {os:List Om} {vs:List V} (hs:∀ (i j:Nat) (v:V),os[i]?=some (Om.rf j)->vs[i]?=some v->σ[j]?=some (some v)):∀ {io:List Nat} {bs:List Dt} {ρ:List (Option Dt)} {P Pb:Fp},AX K g H ρ σ P->Bk K g H vs io bs Pb->Bj P Pb ->
    ∃ P',AX K g H (Ms os io bs ρ) σ P'/\∀ a,P' a->P a\/Pb a
  | [],bs,ρ,P,Pb,r,h,_=>by unfold Ms;exact ⟨P,r,fun _ q=>.inl q⟩
  | i::io,bs,ρ,P,Pb,r,h,n=>by
    unfold Bk at h;obtain ⟨b,br,v,P1,P2,rfl,ev,h1,h2,h3,h4⟩:=h;unfold Ms;have go:∀ {ρ':List (Option Dt)} {P':Fp},AX K g H ρ' σ P'->(∀ a,P' a->P a\/P1 a)->∃ P',AX K g H (Ms os io br ρ') σ P'/\∀ a,P' a->P a\/Pb a:=fun {ρ' P'} r' s'=>by
      obtain ⟨P3,r3,s3⟩:=Us hs r' h2 fun a q z=>(s' a q).elim (fun q=>n a q ((h4 a).mpr (.inr z))) fun q=>h3 a q z
      exact ⟨P3,r3,fun a q=>(s3 a q).elim (fun q=>(s' a q).elim .inl fun q=>.inr ((h4 a).mpr (.inl q))) fun q=>.inr ((h4 a).mpr (.inr q))⟩
    cases eo:os[i]? with
    | none=>exact go r fun _ q=>.inl q
    | some o =>
      cases o with
      | ev f=>exact go r fun _ q=>.inl q
      | rf j =>
        obtain ⟨P',r',s'⟩:=r.putAny (hs i j v eo ev) h1 fun a q z=>n a z ((h4 a).mpr (.inl q))
        exact go r' s'
end
theorem Zs {K:W.Frag} {n:Nat} {io:List Nat} {Φ:Fn} {os:List Om} (nd:(XT os).Nodup) {σ:St} {H:Hp} {Q:VK} (h:tq K (AW Φ n io os) σ H Q):JO K os σ H fun vs H1=>ER K n io Φ vs H1 Q E0:=by
 obtain ⟨g,m,P,r,d,m',e,k⟩:=h;simp only [AW,Option.bind_eq_bind,Option.bind_eq_some_iff,Prod.exists] at e;obtain ⟨ds,m1,e1,e⟩:=e;split at e
 ·rename_i hn;simp only [Option.bind_eq_some_iff,Prod.exists,Option.some.injEq,Prod.mk.injEq] at e;obtain ⟨d',bs,S',e2,rfl,rfl⟩:=e;refine Ba os r e1 fun g' P' Pv vs H' s rs r1 n1=>?_
  obtain ⟨zd,P1,P2,h1,h2,h3,h4⟩:=r1;obtain ⟨Pa,Pr,k1,k2,k3,k4,k5⟩:=rs.takeAll nd h1 fun a q z=>n1 a ((h4 a).mpr (.inl q)) z
  refine ⟨g',ds,m1.S,Pa,P2,hn,zd,k1,h2,fun a q z=>(k4 a q).elim (fun q=>h3 a q z) fun q=>n1 a ((h4 a).mpr (.inr z)) q,d',bs,S',e2,fun g2 H2 v Pw Pb Ps' s2 zd2 rv hb rst n2 n3 n4=>?_⟩
  -- the rest of the state is held
  have okPa:FpOk g' H' fun a=>Pa a\/P2 a:=k1.fpOk.or h2.fpOk
  have hr:=k2.held s2 okPa fun a q z=>z.elim (fun z=>k3 a z q) fun z=>h3 a (k5 a q) z
  have dr:∀ a,Pr a->¬ (Pw a\/Pb a\/Ps' a):=fun a q z=>by
   rcases s2.nw a z with (z | z) | z
   ·exact k3 a z q
   ·exact h3 a (k5 a q) z
   ·have:=(k2.fpOk a q).1;rw [z] at this;exact this
  obtain ⟨P3,r3,s3⟩:=Us (fun i j v ho hv=>rs.slot ho v hv) hr hb fun a q z=>dr a q (.inr (.inl z))
  have all:Step g P H g2 (fun a=>(P3 a\/Ps' a)\/Pw a) H2:=by
   refine (s.trans ((s2.frame (R:=Pr)).sub (Q:=fun a=>P' a\/Pv a) (fun a q=>?_) (Q':=fun a=>(P3 a\/Ps' a)\/Pw a) fun a q=>?_))
   ·rcases q with (q | q) | q
    ·exact (k4 a q).elim (fun q=>.inl ((h4 a).mpr (.inl q))) .inr
    ·exact .inl ((h4 a).mpr (.inr q))
    ·exact .inl ((h4 a).mpr (.inl (k5 a q)))
   ·rcases q with (q | q) | q
    ·exact (s3 a q).elim .inr fun q=>.inl (.inr (.inl q))
    ·exact .inl (.inr (.inr q))
    ·exact .inl (.inl q)
  refine k g2 (fun a=>P3 a\/Ps' a) Pw v H2 all rv ⟨zd2,P3,Ps',r3,rst,fun a q z=>(s3 a q).elim (fun q=>dr a q (.inr (.inr z))) fun q=>n4 a q z,fun _=>Iff.rfl⟩ fun a q z=>?_
  rcases q with q | q
  ·exact (s3 a q).elim (fun q=>dr a q (.inl z)) fun q=>n2 a z q
  ·exact n3 a z q
 ·cases e
section
variable {X:Cx} {k j n:Nat} {x:Str} {ps:List Str} {Φ:Fn} {io:List Nat} {p pos:Pos} {e:Expr} {es:List Expr} {os:List Om}
theorem AY (F:Fx X.prog X.w X.K X.mg X.base k x ps (ER X.K n io Φ)) (hr:Room j X.A) (hkj:k<=j) (hg:Gl X x) (ha:QA X (e::es) os) (nd:(XT os).Nodup:=by decide) (hdb:(x == ("__debug__" : Str))=false:=by decide)
    (he:starEach (e::es) X.env=(false,eval e X.env)::starEach es X.env:=by rfl) (hpl:(backTo pos (starEach es X.env)).any (·.1)=false:=by rfl):QE X (.Call (.Name x p) (e::es) [] pos) (AW Φ n io os):=⟨PE.imp (eQ F hr hkj hg ha.h hdb he hpl) fun _ _ _ h=>Zs nd h⟩
end
noncomputable abbrev Mu:=List Dt->List Dt->Option (Dt×List Dt)
def ag (K:W.Frag) (p:Mu) (R:V->List V->Hp->VK->Prop):Prop:=∀ g H xs vs Px a ds us Pv r ys Q,Zd g H->H a=some (.lst vs)->¬ g.Z a->AG K g H xs vs Px->¬ Px a->AG K g H ds us Pv->¬ Pv a->Bj Px Pv->p xs ds=some (r,ys) ->
 (∀ v ws Pr Py,AG K g (upd H a (.lst ws)) ys ws Py->Rep K g (upd H a (.lst ws)) r v Pr->Bj Py Pr->(∀ b,Py b\/Pr b->Px b\/Pv b)->Q v (upd H a (.lst ws)))->R (.ref a) us H Q
def EJ (i:Nat) (p:Mu) (os:List Om) (m:M):Option (Dt×M):=match m.ρ[i]? with
 | some (some (.lst _ _))=>do
  let (ds,m1) <- AV os m
  match m1.ρ[i]? with
  | some (some (.lst true xs))=>do
   let (r,ys) <- p xs ds
   some (r,m1.set i (some (.lst true ys)))
  | _=>none
 | _=>none
section
variable {K:W.Frag} {σ:St} {H:Hp}
theorem Step.upd {g:G} {a:Addr} {o:HO} {P':Fp} (h:H a≠none) (hs:∀ b,P' b->b=a\/H b=none):Step g (fun b=>b=a) H g P' (upd H a o):=by
 have dm:∀ b,L2.upd H a o b=none->H b=none:=fun b q=>by
  by_cases hb:b=a
  ·subst hb;rw [Cy] at q;cases q
  ·rw [BL hb] at q;exact q
 exact ⟨fun b u q n=>by rw [BL n];exact q,dm,fun _ q=>q,fun _ q=>.inl q,⟨[],by simp⟩,hs,fun z b q e=>z b q (dm b e)⟩
theorem Rel.change {g:G} {m:M} {P:Fp} {i:Nat} {xs:List Dt} (r:Rel K g H m σ P) (e:m.ρ[i]?=some (some (.lst true xs))) :
    ∃ a vs Px P2,σ[i]?=some (some (.ref a))/\H a=some (.lst vs)/\¬ g.Z a/\AG K g H xs vs Px/\¬ Px a/\(∀ b,P b↔(b=a\/Px b)\/P2 b)/\¬ P2 a/\Bj Px P2 /\
      ∀ ws ys Py,AG K g (upd H a (.lst ws)) ys ws Py->¬ Py a->Bj Py P2->Rel K g (upd H a (.lst ws)) (m.set i (some (.lst true ys))) σ fun b=>(b=a\/Py b)\/P2 b:=by
  obtain ⟨v,P1,P2,ev,k1,k2,k3,k4⟩:=r.take e;unfold Rep at k1;obtain ⟨a,vs,Px,rfl,h1,h2,h3,h4,h5⟩:=k1;have ha:H a=some (.lst vs):=h1.1;have p1:∀ b,P1 b↔b=a\/Px b:=fun b=>by rw [h5 b];exact ⟨fun z=>z.elim (fun z=>.inl z.2) .inr,fun z=>z.elim (fun z=>.inl ⟨rfl,z⟩) .inr⟩
  refine ⟨a,vs,Px,P2,ev,ha,h1.2,h2,h3,fun b=>by rw [k4 b,p1 b],fun z=>k3 a ((p1 a).mpr (.inl rfl)) z,fun b q z=>k3 b ((p1 b).mpr (.inr q)) z,fun ws ys Py hy hn hd=>?_⟩;have st:Step g (fun b=>b=a) H g BS (upd H a (.lst ws)):=Step.upd (by rw [ha];simp) fun _ z=>z.elim
  have oka:FpOk g H fun b=>b=a:=fun b q=>by subst q;exact ⟨by rw [ha];trivial,h1.2⟩
  have r2:=k2.held st oka fun b q z=>k3 b ((p1 b).mpr (.inl z)) q
  have rp:Rep K g (upd H a (.lst ws)) (.lst true ys) (.ref a) fun b=>b=a\/Py b:=by
    unfold Rep;exact ⟨a,ws,Py,rfl,⟨Cy,h1.2⟩,hy,hn,fun z=>by (cases z),fun b=>⟨fun z=>z.elim (fun z=>.inl ⟨rfl,z⟩) .inr,fun z=>z.elim (fun z=>.inl z.2) .inr⟩⟩
  have hi:i < m.ρ.length:=(List.getElem?_eq_some_iff.mp e).1;have r3:=r2.put (i:=i) (by show (m.ρ.set i none)[i]?=_;rw [List.getElem?_set_self hi]) ev rp fun b q z=>q.elim (fun q=>k3 b ((p1 b).mpr (.inl q)) z) fun q=>hd b q z
  have em:(m.set i none).set i (some (.lst true ys))=m.set i (some (.lst true ys)):=by unfold M.set;simp
  rw [em] at r3;exact r3
theorem cK {i:Nat} {p:Mu} {os:List Om} {R:V->List V->Hp->VK->Prop} (hR:ag K p R) (he:cm os=true) {Q:VK} (h:tq K (EJ i p os) σ H Q):nF K "list" R (NK i) (JO K os) σ H Q:=by
 obtain ⟨g,m,P,r,d,m',e,k⟩:=h;unfold EJ at e;split at e
 ·rename_i o0 xs0 e0;simp only [Option.bind_eq_bind,Option.bind_eq_some_iff,Prod.exists] at e;obtain ⟨ds,m1,e1,e⟩:=e;split at e
  ·rename_i xs e2;simp only [Option.bind_eq_some_iff,Prod.exists,Option.some.injEq,Prod.mk.injEq] at e;obtain ⟨r',ys,e3,rfl,rfl⟩:=e;obtain ⟨v0,P0,ev0,rv0,_⟩:=r.see e0;obtain ⟨a0,vs0,P0',rfl,h0,_⟩:=rv0.lst;refine ⟨.ref a0,ev0,.inl ⟨rfl,vs0,.inl (.inl h0)⟩,Ba os r e1 fun g' P' Pv us H' s rs r1 n1=>?_⟩;have rp:=AU.reps he rs;obtain ⟨a,vs,Px,P2,ev,ha,hz,hx,hxa,hp,h2a,hx2,go⟩:=r1.change e2;rw [ev0] at ev;cases ev;have pva:¬ Pv a0:=fun z=>n1 a0 ((hp a0).mpr (.inl (.inl rfl))) z
   have dxv:Bj Px Pv:=fun b q z=>n1 b ((hp b).mpr (.inl (.inr q))) z
   refine hR g' H' xs vs Px a0 ds us Pv r' ys Q r1.zd ha hz hx hxa rp pva dxv e3 fun v ws Pr Py hy hr' dyr sub=>?_
   have nya:¬ Py a0:=fun z=>(sub a0 (.inl z)).elim hxa pva
   have r2:=go ws ys Py hy nya fun b q z=>(sub b (.inl q)).elim (fun q=>hx2 b q z) fun q=>n1 b ((hp b).mpr (.inr z)) q
   refine k g' _ Pr v _ ?_ hr' r2 fun b q z=>?_
   ·refine s.trans ((Step.upd (g:=g') (a:=a0) (P':=fun b=>b=a0) (by rw [ha];simp) fun b q=>.inl q).frame (R:=fun b=>P' b\/Pv b) |>.sub (fun b q=>?_) fun b q=>?_)
    ·exact q.elim (fun q=>.inl ((hp b).mpr (.inl (.inl q)))) id
    ·rcases q with (q | q) | q
     ·exact q.elim .inl fun q=>.inr ((sub b (.inl q)).elim (fun q=>.inl ((hp b).mpr (.inl (.inr q)))) .inr)
     ·exact .inr (.inl ((hp b).mpr (.inr q)))
     ·exact .inr ((sub b (.inr q)).elim (fun q=>.inl ((hp b).mpr (.inl (.inr q)))) .inr)
   ·rcases q with (q | q) | q
    ·subst q;exact (sub b (.inr z)).elim hxa pva
    ·exact dyr b q z
    ·exact (sub b (.inr z)).elim (fun z=>hx2 b z q) fun z=>n1 b ((hp b).mpr (.inr q)) z
  ·cases e
 ·cases e
noncomputable def CI (xs ds:List Dt):Option (Dt×List Dt):=match ds with | [d]=>if xs.length<=1000000 then some (.non,xs++[d]) else none | _=>none
noncomputable def qD (xs ds:List Dt):Option (Dt×List Dt):=match ds,xs.getLast? with | [],some d=>some (d,xs.dropLast) | _,_=>none
def GG (xs ds:List Dt):Option (Dt×List Dt):=match ds with | [.lst _ ys]=>if xs.length+ys.length<=1000000 then bif cps ys then some (.non,xs++ys) else none else none | _=>none
noncomputable def nM (_xs ds:List Dt):Option (Dt×List Dt):=match ds with | []=>some (.non,[]) | _=>none
theorem Nn {g:G}:Rep K g H .non .non BS:=by unfold Rep;exact ⟨rfl,fun _ z=>z⟩
theorem Cs:ag K CI Tt:=by
 intro g H xs vs Px a ds us Pv r ys Q zd ha hz hx hxa hd hda dj e k;unfold CI at e;split at e
 ·split at e
  ·rename_i d hl;simp only [Option.some.injEq,Prod.mk.injEq] at e;obtain ⟨rfl,rfl⟩:=e;unfold AG at hd;obtain ⟨v,rr,P1,P2,rfl,h1,h2,h3,h4⟩:=hd;unfold AG at h2;obtain ⟨rfl,h2⟩:=h2;refine ⟨a,vs,v,rfl,rfl,ha,Nat.lt_of_le_of_lt (by rw [<- hx.len];exact hl) (by decide),?_⟩;have st:Step g (fun b=>b=a) H g BS (upd H a (.lst (vs++[v]))):=Step.upd (by rw [ha];simp) fun _ z=>z.elim
   have oka:FpOk g H fun b=>b=a:=fun b q=>by subst q;exact ⟨by rw [ha];trivial,hz⟩
   have hx':=hx.held st oka fun b q z=>hxa (z▸q)
   have h1':=h1.held st oka fun b q z=>hda ((h4 a).mpr (.inl (z▸q)))
   refine k .non (vs++[v]) BS (fun b=>Px b\/P1 b) ?_ Nn (fun _ _ z=>z) fun b q=>q.elim (fun q=>q.elim .inl fun q=>.inr ((h4 b).mpr (.inl q))) False.elim
   refine (AG.app hx' (AG.cons h1' AG.nil fun _ _ z=>z) fun b q z=>z.elim (fun z=>dj b q ((h4 b).mpr (.inl z))) id).iff fun b=>?_
   exact ⟨fun z=>z.elim .inl fun z=>.inr (.inl z),fun z=>z.elim .inl fun z=>z.elim .inr False.elim⟩
  ·cases e
 ·cases e
theorem AG.split:∀ {xs ys:List Dt} {vs:List V} {g:G} {P:Fp},AG K g H (xs++ys) vs P->∃ us ws P1 P2,vs=us++ws/\AG K g H xs us P1/\AG K g H ys ws P2/\Bj P1 P2/\∀ a,P a↔P1 a\/P2 a
 | [],ys,vs,g,P,h=>⟨[],vs,BS,P,rfl,AG.nil,h,fun _ z=>z.elim,fun a=>⟨.inr,fun z=>z.elim False.elim id⟩⟩
 | x::xs,ys,vs,g,P,h=>by
  have h':AG K g H (x::(xs++ys)) vs P:=h;unfold AG at h';obtain ⟨v,r,P1,P2,rfl,h1,h2,h3,h4⟩:=h';obtain ⟨us,ws,Q1,Q2,rfl,k1,k2,k3,k4⟩:=AG.split h2;refine ⟨v::us,ws,fun a=>P1 a\/Q1 a,Q2,rfl,AG.cons h1 k1 fun a q z=>h3 a q ((k4 a).mpr (.inl z)),k2,fun a q z=>q.elim (fun q=>h3 a q ((k4 a).mpr (.inr z))) fun q=>k3 a q z,fun a=>?_⟩;rw [h4 a,k4 a];exact or_assoc.symm
theorem Nu:ag K GG Ts:=by
 intro g H xs vs Px a ds us Pv r ys Q zd ha hz hx hxa hd hda dj e k;unfold GG at e;split at e
 ·rename_i o zs;split at e
  ·rename_i hl;cases c:cps zs with
   | false=>rw [c] at e;cases e
   | true =>
    rw [c,cond_true] at e;simp only [Option.some.injEq,Prod.mk.injEq] at e;obtain ⟨rfl,rfl⟩:=e;unfold AG at hd;obtain ⟨v,rr,P1,P2,rfl,h1,h2,h3,h4⟩:=hd;unfold AG at h2;obtain ⟨rfl,h2⟩:=h2;obtain ⟨b,ws,P1',rfl,hb,hw⟩:=h1.lst;refine ⟨a,b,vs,ws,rfl,rfl,ha,hb,by rw [<- hx.len,<- hw.len];exact Nat.le_trans hl (by decide),?_⟩;have st:Step g (fun b=>b=a) H g BS (upd H a (.lst (vs++ws))):=Step.upd (by rw [ha];simp) fun _ z=>z.elim
    have oka:FpOk g H fun b=>b=a:=fun b q=>by subst q;exact ⟨by rw [ha];trivial,hz⟩
    have hx':=hx.held st oka fun b q z=>hxa (z▸q)
    have hw':=(hw.cp c).held st oka fun b q z=>q.elim
    refine k .non (vs++ws) BS Px ((AG.app hx' hw' fun _ _ z=>z).iff fun b=>⟨.inl,fun z=>z.elim id False.elim⟩) Nn (fun _ _ z=>z) fun b q=>q.elim .inl False.elim
  ·cases e
 ·cases e
end
section
variable {X:Cx} {o e:Expr} {es:List Expr} {i:Nat} {name:Str} {apos cpos:Pos} {id:String} {p:Mu} {R:V->List V->Hp->VK->Prop} {os:List Om}
theorem Gr (slot:Slot "list" name id) (hty:typeOf (.builtin id)=pure (.type "method_descriptor")) (hm:ah X id R) (hR:ag X.K p R) (ho:PE X o (NK i)) (ha:QA X (e::es) os) (hev:cm os=true:=by rfl)
    (hbase:attributeBase o name X.env (eval o X.env)=eval o X.env:=by rfl)
    (hfew:((backTo cpos (starEach (e::es) X.env)).all (fun x=>!x.1) && (backToKw cpos (keywordEach [] X.env)).all (fun x=>x.1.isSome)
      && decide ((e::es).length+([]:List Keyword).length+(if ([]:List Keyword).isEmpty then 0 else 1) < 30))=true:=by rfl)
    (hline:(apos.endLine == cpos.line)=true:=by rfl) (hs:starEach (e::es) X.env=(false,eval e X.env)::starEach es X.env:=by rfl) (hplain:(backTo cpos (starEach es X.env)).any (·.1)=false:=by rfl):QE X (.Call (.Attribute o name apos) (e::es) [] cpos) (EJ i p os):=⟨PE.imp (Xv X.K PySem.F.plainAttrs_list slot hty hm ho ha.h hbase hfew hline hs hplain) fun _ _ _ h=>cK hR hev h⟩
end
def DK (i:Nat) (f:Ev Dt) (o:Om) (m:M):Option (Fl×M):=do
 let (d,m1) <- f m
 let _ <- (m1.ρ[i]?).join
 let (ks,m2) <- AV [o] m1
 match ks,m2.ρ[i]? with
 | [.int k],some (some (.lst true xs))=>do
  let j <- Qb xs.length k
  some (.nx,m2.set i (some (.lst true (xs.set j d))))
 | _,_=>none
theorem AG.set {K:W.Frag} {g:G} {H:Hp}:∀ {xs:List Dt} {vs:List V} {P Pd:Fp} {d:Dt} {v:V} (j:Nat),AG K g H xs vs P->Rep K g H d v Pd->Bj P Pd->∃ P',AG K g H (xs.set j d) (vs.set j v) P'/\∀ a,P' a->P a\/Pd a
 | [],vs,P,Pd,d,v,j,h,hd,n=>by
  unfold AG at h;obtain ⟨rfl,h⟩:=h;exact ⟨BS,AG.nil,fun _ z=>z.elim⟩
 | x::xs,vs,P,Pd,d,v,j,h,hd,n=>by
  unfold AG at h;obtain ⟨u,r,P1,P2,rfl,h1,h2,h3,h4⟩:=h;cases j with
  | zero=>exact ⟨_,AG.cons hd h2 fun a q z=>n a ((h4 a).mpr (.inr z)) q,fun a q=>q.elim .inr fun q=>.inl ((h4 a).mpr (.inr q))⟩
  | succ j =>
   obtain ⟨P',k,s⟩:=AG.set j h2 hd fun a q z=>n a ((h4 a).mpr (.inr q)) z
   refine ⟨_,AG.cons h1 k fun a q z=>(s a z).elim (fun z=>h3 a q z) fun z=>n a ((h4 a).mpr (.inl q)) z,fun a q=>q.elim (fun q=>.inl ((h4 a).mpr (.inl q))) fun q=>(s a q).elim (fun q=>.inl ((h4 a).mpr (.inr q))) .inr⟩
theorem VR {K:W.Frag} {io:List Nat} {i:Nat} {f:Ev Dt} {o:Om} {D:Ends} {σ:St} {H:Hp} (h:gg K io (DK i f o) D σ H):XC (tq K f) (mU (NK i) (VM K o) XX) D σ H:=by
 obtain ⟨g,m,P,r,fl,m',e,k⟩:=h;simp only [DK,Option.bind_eq_bind,Option.bind_eq_some_iff,Prod.exists] at e;obtain ⟨d,m1,e1,d0,e0,ks,m2,e2,e⟩:=e;refine ⟨g,m,P,r,d,m1,e1,fun g1 P1 Pd v H1 s1 rv r1 n1=>?_⟩;obtain ⟨v0,P0,ev0,rv0,_⟩:=r1.see (CJ e0);refine ⟨v0,ev0,?_⟩;split at e
 ·rename_i kk xs e3;simp only [Option.bind_eq_some_iff,Option.some.injEq,Prod.mk.injEq] at e;obtain ⟨j,ej,rfl,rfl⟩:=e;refine PK r1 e2 fun g2 P2 Pv Pr vk H2 s2 rk r2 n2=>?_
  rw [Ap rk];obtain ⟨a,vs,Px,P3,ev,ha,hz,hx,hxa,hp,h2a,hx2,go⟩:=r2.change e3;rw [ev0] at ev;cases ev;have rv2:=rv.held s2 r1.fpOk fun a q z=>n1 a z q
  have dn:∀ b,Pd b->¬ (P2 b\/Pv b):=fun b q z=>by
   rcases s2.nw b z with z | z
   ·exact n1 b z q
   ·have:=(rv.fpOk b q).1;rw [z] at this;exact this
  refine ⟨a,vs,kk,j,rfl,rfl,ha,by rw [<- hx.len];exact ej,?_⟩;have st:Step g2 (fun b=>b=a) H2 g2 BS (upd H2 a (.lst (vs.set j v))):=Step.upd (by rw [ha];simp) fun _ z=>z.elim
  have oka:FpOk g2 H2 fun b=>b=a:=fun b q=>by subst q;exact ⟨by rw [ha];trivial,hz⟩
  have pa:P2 a:=(hp a).mpr (.inl (.inl rfl));obtain ⟨Py,hy,sy⟩:=AG.set j (hx.held st oka fun b q z=>hxa (z▸q)) (rv2.held st oka fun b q z=>dn b q (.inl (z▸pa))) fun b q z=>dn b z (.inl ((hp b).mpr (.inl (.inr q))))
  have r3:=go (vs.set j v) (xs.set j d) Py hy (fun z=>(sy a z).elim hxa fun z=>dn a z (.inl pa)) fun b q z=>(sy b q).elim (fun q=>hx2 b q z) fun q=>dn b q (.inl ((hp b).mpr (.inr z)))
  refine k g2 _ σ _ (s1.trans ((s2.sub (Q':=P2) (fun _ q=>q) fun _ q=>.inl q).frame (R:=Pd) |>.trans ?_)) Io.refl r3;refine ((Step.upd (g:=g2) (a:=a) (P':=fun b=>b=a) (by rw [ha];simp) fun b q=>.inl q).frame (R:=fun b=>P2 b\/Pd b)).sub (fun b q=>q.elim (fun q=>.inl (q▸pa)) id) fun b q=>?_
  rcases q with (q | q) | q
  ·exact .inl q
  ·exact .inr ((sy b q).elim (fun q=>.inl ((hp b).mpr (.inl (.inr q)))) .inr)
  ·exact .inr (.inl ((hp b).mpr (.inr q)))
 ·cases e
theorem Ey {X:Cx} {io:List Nat} {x k e:Expr} {pos tpos:Pos} {i:Nat} {f:Ev Dt} {o:Om} (he:QE X e f) (hx:PE X x (NK i)) (hk:QO X k o)
    (ha:∀ v,assign (.Subscript x k tpos) X.env v=(do
      let ov <- holding [v] (eval x X.env)
      let iv <- holding [v,ov] (eval k X.env)
      standAt tpos
      holding [v,ov,iv] (setItem ov iv v)
      release [v,ov,iv] []):=by intro _;rfl)
    (hs:swapsWithSole [.Subscript x k tpos] e pos.line X.env=pure false:=by rfl) (hw:swappedStores [.Subscript x k tpos] e X.env=pure none:=by rfl)
    (h1:(assignEach [.Subscript x k tpos] X.env).map (·.2)=[assign (.Subscript x k tpos) X.env]:=by rfl):QS X io (.Assign [.Subscript x k tpos] e pos) (DK i f o):=⟨PS.imp (Xk he.h (iI hx hk.h bO ha) hs hw h1) fun _ _ _ h=>VR h⟩
section
variable {K:W.Frag} {g:G} {H:Hp}
theorem RA.one {d:Dt} {vs:List V} (h:RA K g H [d] vs):∃ v P,vs=[v]/\Rep K g H d v P:=by
 unfold RA at h;obtain ⟨v,r,P,rfl,h1,h2⟩:=h;unfold RA at h2;subst h2;exact ⟨v,P,rfl,h1⟩
theorem RA.two {d e:Dt} {vs:List V} (h:RA K g H [d,e] vs):∃ v P w R,vs=[v,w]/\Rep K g H d v P/\Rep K g H e w R:=by
 unfold RA at h;obtain ⟨v,r,P,rfl,h1,h2⟩:=h;obtain ⟨w,R,rfl,h3⟩:=RA.one h2;exact ⟨v,P,w,R,rfl,h1,h3⟩
theorem CO.int (i:Int):CO K g H (.int i) (.int i) H:=CO.old (by unfold Rep;exact ⟨rfl,fun _ z=>z⟩)
theorem CO.bl (b:Bool):CO K g H (.bl b) (.bl b) H:=CO.old HW
theorem CO.str (l:List Nat):CO K g H (.str l) (.str (tx l)) H:=CO.old (by unfold Rep;exact ⟨rfl,fun _ z=>z⟩)
theorem CO.lst {xs:List Dt} {vs:List V} {p:Addr} (zd:Zd g H) (hp:H p=none) (h:AG K g H xs vs BS):CO K g H (.lst true xs) (.ref p) (upd H p (.lst vs)):=by
 have sm:=HU hp (.lst vs);refine ⟨sm,fun b=>b=p,?_,fun b q=>q▸hp⟩;have h2:=h.held (Step.same (g:=g) (P:=BS) sm) (fun _ z=>z.elim) fun _ z=>z.elim
 unfold Rep;exact ⟨p,vs,BS,rfl,⟨Cy,fun z=>zd p z hp⟩,h2,fun z=>z,fun _ _ z=>z,fun b=>⟨fun z=>.inl ⟨rfl,z⟩,fun z=>z.elim (fun z=>z.2) False.elim⟩⟩
theorem CO.tup {xs:List Dt} {vs:List V} {p:Addr} {H':Hp} (sm:af H H') (hp:H' p=some (.tup vs)) (h:AG K g H xs vs BS):CO K g H (.tup xs) (.ref p) H':=by
 refine ⟨sm,BS,?_,fun b q=>q.elim⟩;have h2:=h.held (Step.same (g:=g) (P:=BS) sm) (fun _ z=>z.elim) fun _ z=>z.elim
 unfold Rep;exact ⟨p,vs,rfl,hp,h2⟩
theorem CO.tupNew {xs:List Dt} {vs:List V} {p:Addr} (hp:H p=none) (h:AG K g H xs vs BS):CO K g H (.tup xs) (.ref p) (upd H p (.tup vs)):=CO.tup (HU hp _) Cy h
noncomputable def IS (C:Int->Int->Bool) (f:Int->Int->Int) (ds:List Dt):Option Dt:=match ds with | [.int i,.int j]=>bif C i j then some (.int (f i j)) else none | _=>none
noncomputable def MC (f:Int->Int->Bool) (ds:List Dt):Option Dt:=match ds with | [.int i,.int j]=>some (.bl (f i j)) | _=>none
theorem PC {C:Int->Int->Bool} {C':Int->Int->Prop} {f:Int->Int->Int} (hc:∀ i j,C i j=true->C' i j):Bc K (IS C f) (NH (rI C' fun i j=>.int (f i j))):=by
 intro g H ds vs d Q zd ra e k;unfold IS at e;split at e
 ·rename_i i j;cases c:C i j with
  | false=>rw [c] at e;cases e
  | true =>
   rw [c,cond_true] at e;cases e;obtain ⟨v,P,w,R,rfl,h1,h2⟩:=ra.two;rw [Ap h1,Ap h2];exact ⟨i,j,rfl,rfl,hc i j c,k _ _ (CO.int _)⟩
 ·cases e
theorem bo {f:Int->Int->Int}:Bc K (IS (fun _ _=>true) f) (NH (VX fun i j=>.int (f i j))):=by
 intro g H ds vs d Q zd ra e k;unfold IS at e;split at e
 ·rename_i i j;rw [cond_true] at e;cases e;obtain ⟨v,P,w,R,rfl,h1,h2⟩:=ra.two;rw [Ap h1,Ap h2];exact ⟨i,j,rfl,rfl,k _ _ (CO.int _)⟩
 ·cases e
theorem Cr {f:Int->Int->Bool}:Bc K (MC f) (NH (VX fun i j=>.bl (f i j))):=by
 intro g H ds vs d Q zd ra e k;unfold MC at e;split at e
 ·rename_i i j;cases e;obtain ⟨v,P,w,R,rfl,h1,h2⟩:=ra.two;rw [Ap h1,Ap h2];exact ⟨i,j,rfl,rfl,k _ _ (CO.bl _)⟩
 ·cases e
abbrev cA:=IS (fun _ _=>true) fun i j=>i - j
abbrev Jw:=IS (fun _ j=>decide (0 < j)) fun i j=>i % j
abbrev iX:=IS (fun _ j=>decide (0 < j) && decide (j < 1073741824)) fun i j=>i / j
abbrev lb:=IS (fun i j=>decide (0<=j) && decide (j<=1000000) && decide (i.natAbs < 2 ^ 64)) fun i j=>i ^ j.toNat
abbrev kI:=MC fun i j=>decide (i < j)
abbrev lg:=MC fun i j=>decide (j < i)
abbrev pz:=MC fun i j=>decide (j<=i)
theorem Sf:Bc K cA (NH (VX fun i j=>.int (i - j))):=bo
theorem EU:Bc K Jw (NH (rI (fun _ j=>0 < j) fun i j=>.int (i % j))):=PC fun _ _ h=>of_decide_eq_true h
theorem Xn:Bc K iX (NH (rI nC fun i j=>.int (i / j))):=PC fun _ _ h=>by rw [Bool.and_eq_true,decide_eq_true_eq,decide_eq_true_eq] at h;exact h
theorem iD:Bc K lb (NH (rI nB fun i j=>.int (i ^ j.toNat))):=PC fun _ _ h=>by
 rw [Bool.and_eq_true,Bool.and_eq_true,decide_eq_true_eq,decide_eq_true_eq,decide_eq_true_eq] at h;exact ⟨h.1.1,h.1.2,h.2⟩
noncomputable def Qy (ds:List Dt):Option Dt:=match ds with | [.int i]=>some (.int (-i)) | _=>none
theorem Oz:Bc K Qy (qb (rU fun i=>.int (-i))):=by
 intro g H ds vs d Q zd ra e k;unfold Qy at e;split at e
 ·rename_i i;cases e;obtain ⟨v,P,rfl,h1⟩:=ra.one;rw [Ap h1];exact ⟨i,rfl,k _ _ (CO.int _)⟩
 ·cases e
def DV (ds:List Dt):Option Dt:=match ds with
 | [.int i,.int j]=>some (.int (i+j))
 | [.str a,.str b]=>if a.length+b.length<=1000000 then some (.str (a++b)) else none
 | [.lst _ xs,.lst _ ys]=>if xs.length+ys.length<=1000000 then bif cps xs && cps ys then some (.lst true (xs++ys)) else none else none
 | [.tup xs,.tup ys]=>if xs.length+ys.length<=1000000 then bif cps xs && cps ys then some (.tup (xs++ys)) else none else none
 | _=>none
theorem BW:Bc K DV (NH (Qt K)):=by
 intro g H ds vs d Q zd ra e k;unfold DV at e;split at e
 ·rename_i i j;cases e;obtain ⟨v,P,w,R,rfl,h1,h2⟩:=ra.two;rw [Ap h1,Ap h2];exact aX (k _ _ (CO.int _))
 ·rename_i a b;split at e
  ·rename_i hl;cases e;obtain ⟨v,P,w,R,rfl,h1,h2⟩:=ra.two;rw [CA h1,CA h2];refine aV (by rw [Et,Et];exact hl) ?_;rw [SL];exact k _ _ (CO.str _)
  ·cases e
 ·rename_i o1 xs o2 ys;split at e
  ·rename_i hl;cases c:cps xs && cps ys with
   | false=>rw [c] at e;cases e
   | true =>
    rw [c,cond_true] at e;cases e;rw [Bool.and_eq_true] at c;obtain ⟨v,P,w,R,rfl,h1,h2⟩:=ra.two;obtain ⟨a,us,P1,rfl,ha,hx⟩:=h1.lst;obtain ⟨b,ws,P2,rfl,hb,hy⟩:=h2.lst;refine aW ha hb (by rw [<- hx.len,<- hy.len];exact hl) fun p hp=>k _ _ (CO.lst zd hp ?_)
    exact (AG.app (hx.cp c.1) (hy.cp c.2) fun _ z=>z.elim).iff fun a=>⟨fun z=>z.elim,fun z=>z.elim id id⟩
  ·cases e
 ·rename_i xs ys;split at e
  ·rename_i hl;cases c:cps xs && cps ys with
   | false=>rw [c] at e;cases e
   | true =>
    rw [c,cond_true] at e;cases e;rw [Bool.and_eq_true] at c;obtain ⟨v,P,w,R,rfl,h1,h2⟩:=ra.two;obtain ⟨a,us,rfl,ha',hx⟩:=h1.tupH;obtain ⟨b,ws,rfl,hb',hy⟩:=h2.tupH;have ha:IK K H a us:=.inl (.inl ha');have hb:IK K H b ws:=.inl (.inl hb');have al:AG K g H (xs++ys) (us++ws) BS:=(AG.app (hx.cp c.1) (hy.cp c.2) fun _ z=>z.elim).iff fun a=>⟨fun z=>z.elim,fun z=>z.elim id id⟩
    by_cases hu:us=[]
    ·subst hu;refine .inr ⟨a,b,ws,rfl,rfl,ha,hb,k _ _ ⟨fun _ _ q=>q,BS,?_,fun _ z=>z.elim⟩⟩;unfold Rep;exact ⟨b,ws,rfl,hb',al⟩
    ·refine .inl (.inr (.inr (.inr ⟨a,b,us,ws,rfl,rfl,ha,hb,hu,by rw [<- hx.len,<- hy.len];exact Nat.le_trans hl (by decide),fun hw=>?_,fun _ p hp=>k _ _ (CO.tupNew hp al)⟩)));subst hw;refine k _ _ ⟨fun _ _ q=>q,BS,?_,fun _ z=>z.elim⟩;rw [List.append_nil] at al;unfold Rep;exact ⟨a,us,rfl,ha',al⟩
  ·cases e
 ·cases e
noncomputable def big (i:Int):Bool:=decide (-(2 ^ 64) < i) && decide (i < 2 ^ 64)
def JU (ds:List Dt):Option Dt:=match ds with
 | [.int i,.int j]=>bif big i || big j then some (.int (i * j)) else none
 | [.lst _ xs,.int k]=>if xs.length * k.toNat<=1000000/\k < 1000000/\-1000000 < k then bif cps xs then some (.lst true (List.replicate k.toNat xs).flatten) else none else none
 | _=>none
theorem EB {X:Cx}:FW X (binaryOp .Mult) (fun x y H Q=>(rI aq fun i j=>.int (i * j)) x y H Q\/gv x y H Q):=ie.or ib
theorem AG.flat {xs:List Dt} {vs:List V} (h:AG K g H xs vs BS):∀ n,AG K g H (List.replicate n xs).flatten (List.replicate n vs).flatten BS
 | 0=>by simpa using AG.nil
 | n+1=>by
  rw [List.replicate_succ,List.replicate_succ,List.flatten_cons,List.flatten_cons];exact (AG.app h (AG.flat h n) fun _ z=>z.elim).iff fun a=>⟨fun z=>z.elim,fun z=>z.elim id id⟩
theorem FY:Bc K JU (NH (fun x y H Q=>(rI aq fun i j=>.int (i * j)) x y H Q\/gv x y H Q)):=by
 intro g H ds vs d Q zd ra e k;unfold JU at e;split at e
 ·rename_i i j;cases c:big i || big j with
  | false=>rw [c] at e;cases e
  | true =>
   rw [c,cond_true] at e;cases e;obtain ⟨v,P,w,R,rfl,h1,h2⟩:=ra.two;rw [Ap h1,Ap h2];refine .inl ⟨i,j,rfl,rfl,?_,k _ _ (CO.int _)⟩;rw [Bool.or_eq_true] at c;unfold big at c;rw [Bool.and_eq_true,Bool.and_eq_true,decide_eq_true_eq,decide_eq_true_eq,decide_eq_true_eq,decide_eq_true_eq] at c;exact c
 ·rename_i o xs n;split at e
  ·rename_i hl;cases c:cps xs with
   | false=>rw [c] at e;cases e
   | true =>
    rw [c,cond_true] at e;cases e;obtain ⟨v,P,w,R,rfl,h1,h2⟩:=ra.two;obtain ⟨a,us,P1,rfl,ha,hx⟩:=h1.lst;rw [Ap h2];refine .inr ⟨a,n,us,rfl,rfl,ha,by omega,by omega,by rw [<- hx.len];exact Nat.le_trans hl.1 (by decide),fun p hp=>k _ _ (CO.lst zd hp (AG.flat (hx.cp c) _))⟩
  ·cases e
 ·cases e
noncomputable def HA (ds:List Dt):Option Dt:=match ds with
 | [.str l]=>if l.length<=1000000 then some (.int l.length) else none
 | [.lst _ xs]=>some (.int xs.length)
 | [.tup xs]=>some (.int xs.length)
 | [.scr ns]=>some (.int ns.length)
 | _=>none
theorem Dg:Bc K HA (VW K):=by
 intro g H ds vs d Q zd ra e k;unfold HA at e;split at e
 ·split at e
  ·rename_i l hl;cases e;obtain ⟨v,P,rfl,h1⟩:=ra.one;rw [CA h1];refine Vv (by rw [Et];exact hl) ?_;rw [Et];exact k _ _ (CO.int _)
  ·cases e
 ·rename_i o xs;cases e;obtain ⟨v,P,rfl,h1⟩:=ra.one;obtain ⟨a,us,P1,rfl,ha,hx⟩:=h1.lst;refine cW ha ?_;rw [<- hx.len];exact k _ _ (CO.int _)
 ·rename_i xs;cases e;obtain ⟨v,P,rfl,h1⟩:=ra.one;obtain ⟨a,us,rfl,ha,hx⟩:=h1.tup;refine ⟨_,_,rfl,.inr ⟨us,ha,rfl⟩,?_⟩;rw [<- hx.len];exact k _ _ (CO.int _)
 ·rename_i ns;cases e;obtain ⟨v,P,rfl,h1⟩:=ra.one;obtain ⟨a,rfl,ha⟩:=h1.scr;refine Yp ha ?_;rw [List.length_map];exact k _ _ (CO.int _)
 ·cases e
noncomputable def kN (o:Option Dt):Option Dt:=match o with | some d=>bif d.cp then some d else none | none=>none
def Af (ds:List Dt):Option Dt:=match ds with
 | [.lst _ xs,.int i]=>kN (Gy xs i)
 | [.tup xs,.int i]=>kN (Gy xs i)
 | [.scr ns,.int i]=>(Gy ns i).map .int
 | [.str l,.int i]=>if l.length<=1000000 then (Gy l i).map fun c=>.str [c] else none
 | _=>none
theorem Uy {xs:List Dt} {vs:List V} {P:Fp} {i:Int} {d:Dt} (h:AG K g H xs vs P) (e:Gy xs i=some d):∃ v R,Gy vs i=some v/\Rep K g H d v R:=by
 unfold Gy at e ⊢;rw [h.len] at e;cases q:Qb vs.length i with
 | none=>rw [q] at e;cases e
 | some j =>
  rw [q] at e;obtain ⟨v,R,e1,e2,_⟩:=h.get e;exact ⟨v,R,e1,e2⟩
theorem Rv {o:Option Dt} {d:Dt} (h:kN o=some d):o=some d/\d.cp=true:=by
 unfold kN at h;cases o with
 | none=>cases h
 | some x =>
  simp only at h;cases c:x.cp with
  | false=>rw [c] at h;cases h
  | true=>rw [c,cond_true] at h;cases h;exact ⟨rfl,c⟩
theorem dD {α β:Type} {f:α->β} {xs:List α} {i:Int}:Gy (xs.map f) i=(Gy xs i).map f:=by
 unfold Gy;rw [List.length_map];cases Qb xs.length i with
 | none=>rfl
 | some j=>show (xs.map f)[j]?=_;rw [List.getElem?_map];rfl
theorem iF:Bc K Af (NH (gw K)):=by
 intro g H ds vs d Q zd ra e k;unfold Af at e;split at e
 ·obtain ⟨e1,c⟩:=Rv e;obtain ⟨v,P,w,R,rfl,h1,h2⟩:=ra.two;obtain ⟨a,us,P1,rfl,ha,hx⟩:=h1.lst;rw [Ap h2];obtain ⟨u,R2,e2,h3⟩:=Uy hx e1;exact bR ha e2 (k _ _ (CO.old (h3.cp c)))
 ·obtain ⟨e1,c⟩:=Rv e;obtain ⟨v,P,w,R,rfl,h1,h2⟩:=ra.two;obtain ⟨a,us,rfl,ha,hx⟩:=h1.tup;rw [Ap h2];obtain ⟨u,R2,e2,h3⟩:=Uy hx e1;exact .inr (.inl ⟨a,us,_,u,rfl,rfl,ha,e2,k _ _ (CO.old (h3.cp c))⟩)
 ·rename_i ns i;obtain ⟨v,P,w,R,rfl,h1,h2⟩:=ra.two;obtain ⟨a,rfl,ha⟩:=h1.scr;rw [Ap h2];cases q:Gy ns i with
  | none=>rw [q] at e;cases e
  | some j =>
   rw [q] at e;cases e;exact gu ha (by rw [dD,q];rfl) (k _ _ (CO.int _))
 ·rename_i l i;split at e
  ·rename_i hl;obtain ⟨v,P,w,R,rfl,h1,h2⟩:=ra.two;rw [CA h1,Ap h2];cases q:Gy l i with
   | none=>rw [q] at e;cases e
   | some c =>
    rw [q] at e;cases e;exact bQ (by rw [Et];exact hl) (by rw [Ku];exact q) (k _ _ (CO.str [c]))
  ·cases e
 ·cases e
def Dj {α:Type} (xs:List α) (lo hi:Option Int):List α:=(xs.drop (HT.sIx xs.length 0 lo)).take (HT.sIx xs.length xs.length hi - HT.sIx xs.length 0 lo)
theorem AG.dropc:∀ {xs:List Dt} {vs:List V} (n:Nat),AG K g H xs vs BS->AG K g H (xs.drop n) (vs.drop n) BS
 | xs,vs,0,h=>by simpa using h
 | [],vs,n+1,h=>by
  unfold AG at h;obtain ⟨rfl,_⟩:=h;simpa using AG.nil
 | x::xs,vs,n+1,h=>by
  unfold AG at h;obtain ⟨v,r,P1,P2,rfl,h1,h2,h3,h4⟩:=h;have:AG K g H xs r BS:=h2.iff fun a=>⟨fun z=>z.elim,fun z=>((h4 a).mpr (.inr z)).elim⟩
  simpa using AG.dropc n this
theorem AG.takec:∀ {xs:List Dt} {vs:List V} (n:Nat),AG K g H xs vs BS->AG K g H (xs.take n) (vs.take n) BS
 | xs,vs,0,h=>by simpa using AG.nil
 | [],vs,n+1,h=>by
  unfold AG at h;obtain ⟨rfl,_⟩:=h;simpa using AG.nil
 | x::xs,vs,n+1,h=>by
  unfold AG at h;obtain ⟨v,r,P1,P2,rfl,h1,h2,h3,h4⟩:=h;have t:AG K g H xs r BS:=h2.iff fun a=>⟨fun z=>z.elim,fun z=>((h4 a).mpr (.inr z)).elim⟩
  have t1:Rep K g H x v BS:=h1.iff fun a=>⟨fun z=>z.elim,fun z=>((h4 a).mpr (.inl z)).elim⟩
  rw [List.take_succ_cons,List.take_succ_cons];exact (AG.cons t1 (AG.takec n t) fun _ z=>z.elim).iff fun a=>⟨fun z=>z.elim,fun z=>z.elim id id⟩
theorem AG.cut {xs:List Dt} {vs:List V} (lo hi:Option Int) (h:AG K g H xs vs BS):AG K g H (Dj xs lo hi) (Jk vs lo hi) BS:=by
 unfold Dj Jk;rw [h.len];exact AG.takec _ (AG.dropc _ h)
def Oo (lo hi:Option Int):Dt->Option Dt
 | .str l=>if l.length<=1000000 then some (.str (TQ l lo hi)) else none
 | .lst _ xs=>bif cps xs then some (.lst true (Dj xs lo hi)) else none
 | .tup xs=>bif cps xs then some (.tup (Dj xs lo hi)) else none
 | .scr ns=>some (.lst true ((Dj ns lo hi).map .int))
 | _=>none
theorem cS {α β:Type} (f:α->β) (xs:List α) (lo hi:Option Int):(Dj xs lo hi).map f=Dj (xs.map f) lo hi:=by
 unfold Dj;rw [List.map_take,List.map_drop,List.length_map]
theorem AG.ints:∀ (ns:List Int),AG K g H (ns.map .int) (ns.map V.int) BS
 | []=>AG.nil
 | n::ns=>(AG.cons (v:=.int n) (by unfold Rep;exact ⟨rfl,fun _ z=>z⟩) (AG.ints ns) fun _ z=>z.elim).iff fun a=>⟨fun z=>z.elim,fun z=>z.elim id id⟩
theorem Sb {lo hi:Option Int} {d r:Dt} {v:V} {P:Fp} {Q:VK} (zd:Zd g H) (h:Rep K g H d v P) (e:Oo lo hi d=some r) (k:∀ v H',CO K g H r v H'->Q v H'):Qr K v lo hi H Q:=by
 cases d with
 | str l =>
  simp only [Oo.eq_def] at e;split at e
  ·rename_i hl;cases e;rw [CA h];refine bF (by rw [Et];exact hl) ?_;rw [Wp];exact k _ _ (CO.str _)
  ·cases e
 | lst o xs =>
  simp only [Oo.eq_def] at e;cases c:cps xs with
  | false=>rw [c] at e;cases e
  | true =>
   rw [c,cond_true] at e;cases e;obtain ⟨a,us,P1,rfl,ha,hx⟩:=h.lst;exact bG ha fun p hp=>k _ _ (CO.lst zd hp (AG.cut lo hi (hx.cp c)))
 | tup xs =>
  simp only [Oo.eq_def] at e;cases c:cps xs with
  | false=>rw [c] at e;cases e
  | true =>
   rw [c,cond_true] at e;cases e;obtain ⟨a,us,rfl,ha',hx⟩:=h.tupH;have ha:IK K H a us:=.inl (.inl ha');have al:=AG.cut lo hi (hx.cp c)
   by_cases w:HT.sIx us.length 0 lo=0/\HT.sIx us.length us.length hi=us.length
   ·refine .inr ⟨a,us,rfl,ha,w,k _ _ ⟨fun _ _ q=>q,BS,?_,fun _ z=>z.elim⟩⟩;have ec:Jk us lo hi=us:=by unfold Jk;rw [w.1,w.2];simp
    rw [ec] at al;unfold Rep;exact ⟨a,us,rfl,ha',al⟩
   ·exact .inl (.inr (.inr ⟨a,us,rfl,ha,w,fun p hp=>k _ _ (CO.tupNew hp al)⟩))
 | scr ns =>
  simp only [Oo.eq_def] at e;cases e;obtain ⟨a,rfl,ha⟩:=h.scr;refine gj ha fun p hp=>k _ _ (CO.lst zd hp ?_)
  rw [cS];exact AG.cut lo hi (AG.ints ns)
 | _=>simp [Oo.eq_def] at e
end
def qF (o:Om) (m:M):Option (Dt×M):=AB (fun ds=>match ds with | [d]=>Oo none none d | _=>none) [o] m
def Re (o l:Om) (m:M):Option (Dt×M):=AB (fun ds=>match ds with | [d,.int i]=>Oo (some i) none d | _=>none) [o,l] m
def MT (o h:Om) (m:M):Option (Dt×M):=AB (fun ds=>match ds with | [d,.int i]=>Oo none (some i) d | _=>none) [o,h] m
open Classical in
def Rf (o l h:Om) (m:M):Option (Dt×M):=do
 let (ds,m1) <- AV [o,l] m
 let (hs,m2) <- AV [h] m1
 match ds,hs with
 | [d,.int i],[.int j]=>if m2=m1 then (Oo (some i) (some j) d).map fun r=>(r,m1) else none
 | _,_=>none
theorem AU.held {K:W.Frag} {g g':G} {H H':Hp} {P P':Fp} {ρ:List (Option Dt)} {σ:St} (s:Step g P H g' P' H') (ok:FpOk g H P):∀ {os:List Om} {ds:List Dt} {vs:List V} {Pv:Fp},AU K g H ρ σ os ds vs Pv->Bj Pv P->AU K g' H' ρ σ os ds vs Pv
 | [],ds,vs,Pv,h,_=>by unfold AU at h ⊢;exact h
 | .ev f::os,ds,vs,Pv,h,n=>by
  unfold AU at h ⊢;obtain ⟨d,dr,v,vr,P1,P2,e1,e2,h1,h2,h3,h4⟩:=h;exact ⟨d,dr,v,vr,P1,P2,e1,e2,h1.held s ok fun a q z=>n a ((h4 a).mpr (.inl q)) z,AU.held s ok h2 fun a q z=>n a ((h4 a).mpr (.inr q)) z,h3,h4⟩
 | .rf i::os,ds,vs,Pv,h,n=>by
  unfold AU at h ⊢;obtain ⟨d,dr,v,vr,e1,e2,h1,h2,h3⟩:=h;exact ⟨d,dr,v,vr,e1,e2,h1,h2,AU.held s ok h3 n⟩
section
variable {X:Cx} {e l h:Expr} {oe ol oh:Om} {pos p2:Pos}
theorem eN (he:QO X e oe) (hl:QO X l ol):QE X (.Subscript e (.Slice (some l) none none p2) pos) (Re oe ol):=⟨PE.imp (Lx (gp X.K) he.h (LA hl.h) UB) fun σ H Q q=>by
 refine DH (R:=fun vs H Q=>match vs with | [x,y]=>∃ i,y=.int i/\Qr X.K x (some i) none H Q | _=>False) (fun g H ds vs d Q zd ra e k=>?_) q;split at e
 ·rename_i d i;obtain ⟨v,P,w,R,rfl,h1,h2⟩:=ra.two;exact ⟨i,Ap h2,Sb zd h1 e k⟩
 ·cases e⟩
theorem Tw (he:QO X e oe) (hh:QO X h oh):QE X (.Subscript e (.Slice none (some h) none p2) pos) (MT oe oh):=⟨PE.imp (Lx (gp X.K) he.h UB (LA hh.h)) fun σ H Q q=>by
 refine DH (R:=fun vs H Q=>match vs with | [x,y]=>∃ i,y=.int i/\Qr X.K x none (some i) H Q | _=>False) (fun g H ds vs d Q zd ra e k=>?_) q;split at e
 ·rename_i d i;obtain ⟨v,P,w,R,rfl,h1,h2⟩:=ra.two;exact ⟨i,Ap h2,Sb zd h1 e k⟩
 ·cases e⟩
theorem lL (he:QO X e oe) (hl:QO X l ol) (hh:QO X h oh):QE X (.Subscript e (.Slice (some l) (some h) none p2) pos) (Rf oe ol oh):=⟨PE.imp (Lx (gp X.K) he.h (LA hl.h) (LA hh.h)) fun σ H Q q=>by
 obtain ⟨g,m,P,r,d,m',e,k⟩:=q;simp only [Rf.eq_def,Option.bind_eq_bind,Option.bind_eq_some_iff,Prod.exists] at e;obtain ⟨ds,m1,e1,hs,m2,e2,e⟩:=e;split at e
 ·rename_i d i j;split at e
  ·rename_i hm;subst hm;simp only [Option.map_eq_some_iff,Prod.mk.injEq] at e;obtain ⟨rr,e3,rfl,rfl⟩:=e;show JO X.K [oe,ol] σ H fun vs H2=>match vs with | [x,y]=>∃ i,y=.int i/\VM X.K oh σ H2 (fun z H3=>∃ j,z=.int j/\Qr X.K x (some i) (some j) H3 Q) | _=>False
   refine Ba [oe,ol] r e1 fun g1 P1 Pv vs H1 s1 rs r1 n1=>?_
   obtain ⟨v,P0,w,R0,rfl,h1,h2⟩:=(AU.ra r1 rs).two;refine ⟨i,Ap h2,PK r1 e2 fun g2 P2 Pw Pr z H2 s2 rz r2 n2=>⟨j,Ap rz,?_⟩⟩;have rs2:=rs.held s2 r1.fpOk fun a q z=>n1 a z q
   obtain ⟨v',P0',w',R0',e',h1',h2'⟩:=(AU.ra r2 rs2).two;cases e';refine Sb r2.zd h1' e3 fun v2 H3 nw=>?_
   obtain ⟨Pz,s3,h3,r3,n3⟩:=CO.go (s1.trans (s2.frame (R:=Pv) |>.sub (Q':=fun a=>P2 a\/Pw a) (fun _ q=>q) fun _ q=>.inl q)) r2 nw;exact k g2 P2 Pz v2 H3 s3 h3 r3 n3
  ·cases e
 ·cases e⟩
end
end Q
namespace L3
open PySem PySem.Spec PyProof.Rows PySem.SeqAt L2
abbrev St:=L2.St
inductive D where
 | fl (v:V)
 | tup (ds:List D)
 | lst (ds:List D)
mutual
noncomputable def eqD:D->D->Bool
 | .fl a,.fl b=>eqV a b
 | .tup a,.tup b=>eqDs a b
 | .lst a,.lst b=>eqDs a b
 | _,_=>false
noncomputable def eqDs:List D->List D->Bool
 | [],[]=>true
 | x::xs,y::ys=>eqD x y && eqDs xs ys
 | _,_=>false
end
mutual
noncomputable def D.dep:D->Nat
 | .fl _=>0
 | .tup ds=>depL ds+1
 | .lst ds=>depL ds+1
noncomputable def depL:List D->Nat
 | []=>0
 | d::ds=>max d.dep (depL ds)
end
mutual
noncomputable def Is (K:W.Frag) (H:Hp):V->D->Prop
 | x,.fl v=>x=v/\Jd v=true
 | x,.tup ds=>∃ a xs,x=.ref a/\IK K H a xs/\IsL K H xs ds
 | x,.lst ds=>∃ a xs,x=.ref a/\HC K H a xs/\IsL K H xs ds
noncomputable def IsL (K:W.Frag) (H:Hp):List V->List D->Prop
 | [],[]=>True
 | x::xs,d::ds=>Is K H x d/\IsL K H xs ds
 | _,_=>False
end
theorem IsL.inv {K:W.Frag} {H:Hp} {x:V} {xs:List V} {es:List D} (h:IsL K H (x::xs) es):∃ d ds,es=d::ds/\Is K H x d/\IsL K H xs ds:=by
 cases es with
 | nil=>unfold IsL at h;exact h.elim
 | cons d ds=>unfold IsL at h;exact ⟨d,ds,rfl,h.1,h.2⟩
theorem IsL.length {K:W.Frag} {H:Hp}:∀ {xs:List V} {ds:List D},IsL K H xs ds->xs.length=ds.length
 | [],[],_=>rfl
 | [],_::_,h=>by unfold IsL at h;exact h.elim
 | _::_,[],h=>by unfold IsL at h;exact h.elim
 | x::xs,d::ds,h=>by unfold IsL at h;rw [List.length_cons,List.length_cons,IsL.length h.2]
theorem IsL.get {K:W.Frag} {H:Hp}:∀ {xs:List V} {ds:List D} {i:Nat} {d:D},IsL K H xs ds->ds[i]?=some d->∃ x,xs[i]?=some x/\Is K H x d
 | [],[],_,_,_,e=>by simp at e
 | [],_::_,_,_,h,_=>by unfold IsL at h;exact h.elim
 | _::_,[],_,_,_,e=>by simp at e
 | x::xs,d::ds,0,d',h,e=>by
  unfold IsL at h;have:d=d':=by simpa using e
  subst this;exact ⟨x,rfl,h.1⟩
 | x::xs,d::ds,i+1,_,h,e=>by
  unfold IsL at h;obtain ⟨y,e1,e2⟩:=IsL.get (i:=i) h.2 (by simpa using e);exact ⟨y,by simpa using e1,e2⟩
theorem Tn {X:Cx} {pins:List (Addr×Obj)} {σ:St} {H:Hp} {s:Shared} {a:Addr} {xs ys:List V} (I:Inv X pins σ H s) (h:IK X.K H a xs) (k:HC X.K H a ys):False:=by
 obtain ⟨_,_,⟨o,e,c,_⟩,_⟩:=I.tuple h;obtain ⟨_,_,⟨o',n,e',c',_⟩,_⟩:=I.list k;rw [e] at e';cases e';rw [c] at c';injection c' with q
 exact absurd q (by decide)
mutual
theorem Is.inj {X:Cx} {pins:List (Addr×Obj)} {σ:St} {H:Hp} {s:Shared} (I:Inv X pins σ H s):∀ {d e:D} {x:V},Is X.K H x d->Is X.K H x e->d=e
 | .fl v,e,x,h,k=>by
  unfold Is at h;obtain ⟨rfl,hf⟩:=h;cases e with
  | fl u=>unfold Is at k;rw [k.1]
  | tup es=>unfold Is at k;obtain ⟨a,xs,rfl,_⟩:=k;cases hf
  | lst es=>unfold Is at k;obtain ⟨a,xs,rfl,_⟩:=k;cases hf
 | .tup ds,e,x,h,k=>by
  unfold Is at h;obtain ⟨a,xs,rfl,h1,h2⟩:=h;cases e with
  | fl u=>unfold Is at k;obtain ⟨k1,k2⟩:=k;rw [<- k1] at k2;cases k2
  | tup es =>
   unfold Is at k;obtain ⟨b,ys,e,k1,k2⟩:=k;cases e;rw [I.tuple_inj h1 k1] at h2;rw [IsL.inj I h2 k2]
  | lst es=>unfold Is at k;obtain ⟨b,ys,e,k1,k2⟩:=k;cases e;exact (Tn I h1 k1).elim
 | .lst ds,e,x,h,k=>by
  unfold Is at h;obtain ⟨a,xs,rfl,h1,h2⟩:=h;cases e with
  | fl u=>unfold Is at k;obtain ⟨k1,k2⟩:=k;rw [<- k1] at k2;cases k2
  | lst es =>
   unfold Is at k;obtain ⟨b,ys,e,k1,k2⟩:=k;cases e;rw [I.list_inj h1 k1] at h2;rw [IsL.inj I h2 k2]
  | tup es=>unfold Is at k;obtain ⟨b,ys,e,k1,k2⟩:=k;cases e;exact (Tn I k1 h1).elim
theorem IsL.inj {X:Cx} {pins:List (Addr×Obj)} {σ:St} {H:Hp} {s:Shared} (I:Inv X pins σ H s):∀ {ds es:List D} {xs:List V},IsL X.K H xs ds->IsL X.K H xs es->ds=es
 | [],es,[],h,k=>by
  cases es with
  | nil=>rfl
  | cons e es=>unfold IsL at k;exact k.elim
 | [],_,_::_,h,_=>by unfold IsL at h;exact h.elim
 | _::_,_,[],h,_=>by unfold IsL at h;exact h.elim
 | d::ds,es,x::xs,h,k=>by
  unfold IsL at h;obtain ⟨e,es',rfl,k1,k2⟩:=k.inv;rw [Is.inj I h.1 k1,IsL.inj I h.2 k2]
end
theorem eqV_refl {v:V} (h:Jd v=true):eqV v v=true:=by
 cases v<;>first | rfl | (simp [eqV];done) | cases h
mutual
theorem eqD_refl {K:W.Frag} {H:Hp}:∀ {d:D} {x:V},Is K H x d->eqD d d=true
 | .fl v,x,h=>by unfold Is at h;unfold eqD;exact eqV_refl h.2
 | .tup ds,x,h=>by unfold Is at h;obtain ⟨_,_,_,_,h2⟩:=h;unfold eqD;exact eqDs_refl h2
 | .lst ds,x,h=>by unfold Is at h;obtain ⟨_,_,_,_,h2⟩:=h;unfold eqD;exact eqDs_refl h2
theorem eqDs_refl {K:W.Frag} {H:Hp}:∀ {ds:List D} {xs:List V},IsL K H xs ds->eqDs ds ds=true
 | [],_,_=>by unfold eqDs;rfl
 | _::_,[],h=>by unfold IsL at h;exact h.elim
 | d::ds,x::xs,h=>by
  unfold IsL at h;unfold eqDs;rw [eqD_refl h.1,eqDs_refl h.2];rfl
end
theorem Du:∀ (xs ys:List D) (e:Nat->Bool),(∀ i x y,xs[i]?=some x->ys[i]?=some y->e i=eqD x y)->((List.range (min xs.length ys.length)).all e && xs.length == ys.length)=eqDs xs ys
 | [],[],_,_=>by unfold eqDs;rfl
 | [],_::_,_,_=>by unfold eqDs;simp
 | _::_,[],_,_=>by unfold eqDs;simp
 | x::xs,y::ys,e,h=>by
  have ih:=Du xs ys (fun i=>e (i+1)) fun i a b h1 h2=>h (i+1) a b (by simpa using h1) (by simpa using h2)
  have h0:=h 0 x y rfl rfl;unfold eqDs;rw [<- ih,<- h0,List.length_cons,List.length_cons,Nat.succ_min_succ,List.range_succ_eq_map,List.all_cons,List.all_map];have:((xs.length+1 == ys.length+1):Bool)=(xs.length == ys.length):=by simp
  rw [this,Bool.and_assoc];rfl
theorem Jh:∀ {ds:List D} {i:Nat} {d:D},ds[i]?=some d->d.dep<=depL ds
 | [],_,_,e=>by simp at e
 | d::ds,0,d',e=>by
  have:d=d':=by simpa using e
  subst this;show d.dep<=depL (d::ds);unfold depL;exact Nat.le_max_left _ _
 | d::ds,i+1,x,e=>by
  have:=Jh (ds:=ds) (i:=i) (d:=x) (by simpa using e);unfold depL;exact Nat.le_trans this (Nat.le_max_right _ _)
section
variable {X:Cx} {pins:List (Addr×Obj)} {σ:St} {H:Hp} {s:Shared}
def eAt (ds es:List D) (i:Nat):Bool:=match ds[i]?,es[i]? with | some a,some b=>eqD a b | _,_=>true
theorem eAt_of {ds es:List D} {i:Nat} {a b:D} (h1:ds[i]?=some a) (h2:es[i]?=some b):eAt ds es i=eqD a b:=by unfold eAt;rw [h1,h2]
theorem By {x:V} (h:Jd x=true):x=.non\/(∃ b,x=.bl b)\/(∃ i,x=.int i)\/∃ z,x=.str z:=by
 cases x with
 | non=>exact .inl rfl
 | bl b=>exact .inr (.inl ⟨b,rfl⟩)
 | int i=>exact .inr (.inr (.inl ⟨i,rfl⟩))
 | str z=>exact .inr (.inr (.inr ⟨z,rfl⟩))
 | _=>cases h
theorem Zh (I:Inv X pins σ H s):∀ (n:Nat) (A:Around) (d e:D) (x y:V) (u v:Value),d.dep<=n->A.units+n < cLine->RelV x u->RelV y v->Is X.K H x d->Is X.K H y e->EqAt A s u v (eqD d e):=by
 intro n
 induction n with
 | zero =>
  intro A d e x y u v hd hu rx ry hx hy;cases d with
  | fl a =>
   unfold Is at hx;obtain ⟨rfl,fx⟩:=hx;cases e with
   | fl b=>unfold Is at hy;obtain ⟨rfl,fy⟩:=hy;unfold eqD;exact jX rx ry fx fy
   | tup es =>
    unfold Is at hy;obtain ⟨b,ys,rfl,h1,h2⟩:=hy;cases ry;obtain ⟨its,r,ht,_⟩:=I.tuple h1;unfold eqD;rcases By fx with rfl | ⟨c,rfl⟩ | ⟨c,rfl⟩ | ⟨c,rfl⟩
    ·cases rx;exact EqAt.none_tuple ht hu
    ·cases rx;exact EqAt.bool_tuple c ht hu
    ·obtain ⟨t,rfl⟩:=rx;exact EqAt.int_tuple c t ht hu
    ·obtain ⟨t,rfl⟩:=rx;exact EqAt.str_tuple c t ht hu
   | lst es =>
    unfold Is at hy;obtain ⟨b,ys,rfl,h1,h2⟩:=hy;cases ry;obtain ⟨its,r,ht,_⟩:=I.list h1;unfold eqD;rcases By fx with rfl | ⟨c,rfl⟩ | ⟨c,rfl⟩ | ⟨c,rfl⟩
    ·cases rx;exact EqAt.none_list ht.isList hu
    ·cases rx;exact EqAt.bool_list c ht.isList hu
    ·obtain ⟨t,rfl⟩:=rx;exact EqAt.int_list c t ht.isList hu
    ·obtain ⟨t,rfl⟩:=rx;exact EqAt.str_list c t ht.isList hu
  | tup ds=>unfold D.dep at hd;omega
  | lst ds=>unfold D.dep at hd;omega
 | succ n ih =>
  intro A d e x y u v hd hu rx ry hx hy;have hu0:A.units < cLine:=by omega
  cases d with
  | fl a=>exact ih A (.fl a) e x y u v (by unfold D.dep;omega) (by omega) rx ry hx hy
  | tup ds =>
   unfold D.dep at hd;have hx0:=hx;unfold Is at hx;obtain ⟨a,xs,rfl,h1,h2⟩:=hx;cases rx;obtain ⟨its,r,ht,_⟩:=I.tuple h1;cases e with
   | fl b =>
    unfold Is at hy;obtain ⟨rfl,fy⟩:=hy;unfold eqD;rcases By fy with rfl | ⟨c,rfl⟩ | ⟨c,rfl⟩ | ⟨c,rfl⟩
    ·cases ry;exact EqAt.tuple_none ht hu0
    ·cases ry;exact EqAt.tuple_bool c ht hu0
    ·obtain ⟨t,rfl⟩:=ry;exact EqAt.tuple_int c t ht hu0
    ·obtain ⟨t,rfl⟩:=ry;exact EqAt.tuple_str c t ht hu0
   | tup es =>
    have hy0:=hy;unfold Is at hy;obtain ⟨b,ys,rfl,k1,k2⟩:=hy;cases ry;obtain ⟨its2,r2,ht2,_⟩:=I.tuple k1
    by_cases hab:a=b
    ·subst hab;rw [Is.inj I hx0 hy0,eqD_refl hy0];exact EqAt.same _
    ·refine EqAt.of_refs hab ?_;have q:=RcAt.tuples (e:=eAt ds es) ht ht2 hu0 (fun j j1 j2=>?_)
     ·have e1:=Du ds es (eAt ds es) fun i a b q1 q2=>eAt_of q1 q2
      rw [List.size_toArray,List.size_toArray,<- r.length,<- r2.length,h2.length,k2.length,e1] at q;unfold eqD;exact q
     ·have j1':j < its.length:=by simpa using j1
      have j2':j < its2.length:=by simpa using j2
      have l1:j < ds.length:=by rw [<- h2.length,r.length];exact j1'
      have l2:j < es.length:=by rw [<- k2.length,r2.length];exact j2'
      obtain ⟨x',ex,px⟩:=h2.get (i:=j) (List.getElem?_eq_getElem l1);obtain ⟨y',ey,py⟩:=k2.get (i:=j) (List.getElem?_eq_getElem l2);obtain ⟨u',eu,ru⟩:=r.get ex;obtain ⟨v',ev,rv⟩:=r2.get ey;rw [eAt_of (List.getElem?_eq_getElem l1) (List.getElem?_eq_getElem l2)];have z1:its.toArray[j]=u':=by rw [List.getElem?_eq_getElem j1'] at eu;simpa using Option.some.inj eu
      have z2:its2.toArray[j]=v':=by rw [List.getElem?_eq_getElem j2'] at ev;simpa using Option.some.inj ev
      rw [z1,z2];exact ih A.in1 _ _ x' y' u' v' (Nat.le_trans (Jh (List.getElem?_eq_getElem l1)) (by omega)) (by show A.units+1+n < cLine;omega) ru rv px py
   | lst es =>
    unfold Is at hy;obtain ⟨b,ys,rfl,k1,k2⟩:=hy;cases ry;obtain ⟨its2,r2,ht2,_⟩:=I.list k1;unfold eqD;exact EqAt.tuple_list ht ht2.isList hu0
  | lst ds =>
   unfold D.dep at hd;have hx0:=hx;unfold Is at hx;obtain ⟨a,xs,rfl,h1,h2⟩:=hx;cases rx;obtain ⟨its,r,ht,_⟩:=I.list h1;cases e with
   | fl b =>
    unfold Is at hy;obtain ⟨rfl,fy⟩:=hy;unfold eqD;rcases By fy with rfl | ⟨c,rfl⟩ | ⟨c,rfl⟩ | ⟨c,rfl⟩
    ·cases ry;exact EqAt.list_none ht.isList hu0
    ·cases ry;exact EqAt.list_bool c ht.isList hu0
    ·obtain ⟨t,rfl⟩:=ry;exact EqAt.list_int c t ht.isList hu0
    ·obtain ⟨t,rfl⟩:=ry;exact EqAt.list_str c t ht.isList hu0
   | tup es =>
    unfold Is at hy;obtain ⟨b,ys,rfl,k1,k2⟩:=hy;cases ry;obtain ⟨its2,r2,ht2,_⟩:=I.tuple k1;unfold eqD;exact EqAt.list_tuple ht.isList ht2 hu0
   | lst es =>
    have hy0:=hy;unfold Is at hy;obtain ⟨b,ys,rfl,k1,k2⟩:=hy;cases ry;obtain ⟨its2,r2,ht2,_⟩:=I.list k1
    by_cases hab:a=b
    ·subst hab;rw [Is.inj I hx0 hy0,eqD_refl hy0];exact EqAt.same _
    ·refine EqAt.of_refs hab ?_
     by_cases hsz:ds.length=es.length
     ·have e1:=Du ds es (eAt ds es) fun i a b q1 q2=>eAt_of q1 q2
      rw [hsz,Nat.min_self,beq_self_eq_true,Bool.and_true] at e1;have q:=RcAt.lists (e:=eAt ds es) ht.isList ht2.isList (by rw [List.size_toArray,List.size_toArray,<- r.length,<- r2.length,h2.length,k2.length];exact hsz) hu0 (fun j j1 j2=>?_)
      ·rw [List.size_toArray,<- r.length,h2.length,hsz,e1] at q;unfold eqD;exact q
      ·have j1':j < its.length:=by simpa using j1
       have j2':j < its2.length:=by simpa using j2
       have l1:j < ds.length:=by rw [<- h2.length,r.length];exact j1'
       have l2:j < es.length:=by rw [<- k2.length,r2.length];exact j2'
       obtain ⟨x',ex,px⟩:=h2.get (i:=j) (List.getElem?_eq_getElem l1);obtain ⟨y',ey,py⟩:=k2.get (i:=j) (List.getElem?_eq_getElem l2);obtain ⟨u',eu,ru⟩:=r.get ex;obtain ⟨v',ev,rv⟩:=r2.get ey;rw [eAt_of (List.getElem?_eq_getElem l1) (List.getElem?_eq_getElem l2)];have z1:its.toArray[j]=u':=by rw [List.getElem?_eq_getElem j1'] at eu;simpa using Option.some.inj eu
       have z2:its2.toArray[j]=v':=by rw [List.getElem?_eq_getElem j2'] at ev;simpa using Option.some.inj ev
       rw [z1,z2];exact ih A.in1 _ _ x' y' u' v' (Nat.le_trans (Jh (List.getElem?_eq_getElem l1)) (by omega)) (by show A.units+1+n < cLine;omega) ru rv px py
     ·have q:=RcAt.lists_lengths (A:=A) ht.isList ht2.isList (by rw [List.size_toArray,List.size_toArray,<- r.length,<- r2.length,h2.length,k2.length];simpa using hsz) hu0;have e1:=Du ds es (eAt ds es) fun i a b q1 q2=>eAt_of q1 q2
      have:(ds.length == es.length)=false:=by simpa using hsz
      rw [this,Bool.and_false] at e1;unfold eqD;rw [<- e1];exact q
end
noncomputable def D.seq:D->Bool
 | .fl _=>false
 | _=>true
section
variable {X:Cx} {pins:List (Addr×Obj)} {σ:St} {H:Hp} {s:Shared}
theorem RW (I:Inv X pins σ H s) {n:Nat} {A:Around} {xs ys:List V} {ds es:List D} {its its2:List Value} (hd:depL ds<=n) (hu:A.units+1+n < cLine) (r:Am xs its) (r2:Am ys its2) (h2:IsL X.K H xs ds) (k2:IsL X.K H ys es) :
    ∀ j (h1:j < its.toArray.size) (h2:j < its2.toArray.size),EqAt A.in1 s its.toArray[j] its2.toArray[j] (eAt ds es j):=fun j j1 j2=>by
  have j1':j < its.length:=by simpa using j1
  have j2':j < its2.length:=by simpa using j2
  have l1:j < ds.length:=by rw [<- h2.length,r.length];exact j1'
  have l2:j < es.length:=by rw [<- k2.length,r2.length];exact j2'
  obtain ⟨x',ex,px⟩:=h2.get (i:=j) (List.getElem?_eq_getElem l1);obtain ⟨y',ey,py⟩:=k2.get (i:=j) (List.getElem?_eq_getElem l2);obtain ⟨u',eu,ru⟩:=r.get ex;obtain ⟨v',ev,rv⟩:=r2.get ey;rw [eAt_of (List.getElem?_eq_getElem l1) (List.getElem?_eq_getElem l2)];have z1:its.toArray[j]=u':=by rw [List.getElem?_eq_getElem j1'] at eu;simpa using Option.some.inj eu
  have z2:its2.toArray[j]=v':=by rw [List.getElem?_eq_getElem j2'] at ev;simpa using Option.some.inj ev
  rw [z1,z2];exact Zh I n A.in1 _ _ x' y' u' v' (Nat.le_trans (Jh (List.getElem?_eq_getElem l1)) hd) (by show A.units+1+n < cLine;exact hu) ru rv px py
theorem Ow (I:Inv X pins σ H s) {A:Around} {d e:D} {x y:V} {u v:Value} (sd:d.seq=true) (se:e.seq=true) (hu:A.units+d.dep+1 < cLine) (rx:RelV x u) (ry:RelV y v) (hx:Is X.K H x d) (hy:Is X.K H y e):RcAt A s u v (eqD d e)/\RcNeAt A s u v (!eqD d e):=by
 have hu0:A.units < cLine:=by omega
 cases d with
 | fl a=>cases sd
 | tup ds =>
  unfold D.dep at hu;unfold Is at hx;obtain ⟨a,xs,rfl,h1,h2⟩:=hx;cases rx;obtain ⟨its,r,ht,_⟩:=I.tuple h1;cases e with
  | fl b=>cases se
  | tup es =>
   unfold Is at hy;obtain ⟨b,ys,rfl,k1,k2⟩:=hy;cases ry;obtain ⟨its2,r2,ht2,_⟩:=I.tuple k1;have e1:=Du ds es (eAt ds es) fun i a b q1 q2=>eAt_of q1 q2
   have it:=RW I (A:=A) (n:=depL ds) (Nat.le_refl _) (by omega) r r2 h2 k2;have q:=RcAt.tuples (e:=eAt ds es) ht ht2 hu0 it;have q':=RcNeAt.tuples (e:=eAt ds es) ht ht2 hu0 it;rw [List.size_toArray,List.size_toArray,<- r.length,<- r2.length,h2.length,k2.length,e1] at q q';unfold eqD;exact ⟨q,q'⟩
  | lst es =>
   unfold Is at hy;obtain ⟨b,ys,rfl,k1,k2⟩:=hy;cases ry;obtain ⟨its2,r2,ht2,_⟩:=I.list k1;unfold eqD;exact ⟨RcAt.tuple_list ht ht2.isList hu0,RcNeAt.tuple_list ht ht2.isList hu0⟩
 | lst ds =>
  unfold D.dep at hu;unfold Is at hx;obtain ⟨a,xs,rfl,h1,h2⟩:=hx;cases rx;obtain ⟨its,r,ht,_⟩:=I.list h1;cases e with
  | fl b=>cases se
  | tup es =>
   unfold Is at hy;obtain ⟨b,ys,rfl,k1,k2⟩:=hy;cases ry;obtain ⟨its2,r2,ht2,_⟩:=I.tuple k1;unfold eqD;exact ⟨RcAt.list_tuple ht.isList ht2 hu0,RcNeAt.list_tuple ht.isList ht2 hu0⟩
  | lst es =>
   unfold Is at hy;obtain ⟨b,ys,rfl,k1,k2⟩:=hy;cases ry;obtain ⟨its2,r2,ht2,_⟩:=I.list k1;have e1:=Du ds es (eAt ds es) fun i a b q1 q2=>eAt_of q1 q2
   unfold eqD
   by_cases hsz:ds.length=es.length
   ·rw [hsz,Nat.min_self,beq_self_eq_true,Bool.and_true] at e1;have it:=RW I (A:=A) (n:=depL ds) (Nat.le_refl _) (by omega) r r2 h2 k2;have sz:its.toArray.size=its2.toArray.size:=by rw [List.size_toArray,List.size_toArray,<- r.length,<- r2.length,h2.length,k2.length];exact hsz
    have q:=RcAt.lists (e:=eAt ds es) ht.isList ht2.isList sz hu0 it;have q':=RcNeAt.lists (e:=eAt ds es) ht.isList ht2.isList sz hu0 it;rw [List.size_toArray,<- r.length,h2.length,hsz,e1] at q q';exact ⟨q,q'⟩
   ·have sz:(its.toArray.size != its2.toArray.size)=true:=by rw [List.size_toArray,List.size_toArray,<- r.length,<- r2.length,h2.length,k2.length];simpa using hsz
    have:(ds.length == es.length)=false:=by simpa using hsz
    rw [this,Bool.and_false] at e1;rw [<- e1];exact ⟨RcAt.lists_lengths ht.isList ht2.isList sz hu0,RcNeAt.lists_lengths ht.isList ht2.isList sz hu0⟩
end
section
variable {X:Cx} {pins:List (Addr×Obj)} {σ:L2.St} {H:Hp} {s:Shared}
theorem bT {A:Around} {x y:V} {u v:Value} (rx:RelV x u) (ry:RelV y v) (fx:Jd x=true) (fy:Jd y=true):RcAt A s u v (eqV x y)/\RcNeAt A s u v (!eqV x y):=by
 rcases By fx with rfl | ⟨c,rfl⟩ | ⟨c,rfl⟩ | ⟨c,rfl⟩<;>rcases By fy with rfl | ⟨d,rfl⟩ | ⟨d,rfl⟩ | ⟨d,rfl⟩
 ·cases rx;cases ry;exact ⟨RcAt.none_none , RcNeAt.none_none ⟩
 ·cases rx;cases ry;exact ⟨RcAt.none_bool d,RcNeAt.none_bool d⟩
 ·cases rx;obtain ⟨dt,rfl⟩:=ry;exact ⟨RcAt.none_int d dt,RcNeAt.none_int d dt⟩
 ·cases rx;obtain ⟨dt,rfl⟩:=ry;exact ⟨RcAt.none_str d dt,RcNeAt.none_str d dt⟩
 ·cases rx;cases ry;exact ⟨RcAt.bool_none c,RcNeAt.bool_none c⟩
 ·cases rx;cases ry;exact ⟨RcAt.bool_bool c d,RcNeAt.bool_bool c d⟩
 ·cases rx;obtain ⟨dt,rfl⟩:=ry;exact ⟨RcAt.bool_int c d dt,RcNeAt.bool_int c d dt⟩
 ·cases rx;obtain ⟨dt,rfl⟩:=ry;exact ⟨RcAt.bool_str c d dt,RcNeAt.bool_str c d dt⟩
 ·obtain ⟨ct,rfl⟩:=rx;cases ry;exact ⟨RcAt.int_none c ct,RcNeAt.int_none c ct⟩
 ·obtain ⟨ct,rfl⟩:=rx;cases ry;exact ⟨RcAt.int_bool c ct d,RcNeAt.int_bool c ct d⟩
 ·obtain ⟨ct,rfl⟩:=rx;obtain ⟨dt,rfl⟩:=ry;exact ⟨RcAt.int_int c ct d dt,RcNeAt.int_int c ct d dt⟩
 ·obtain ⟨ct,rfl⟩:=rx;obtain ⟨dt,rfl⟩:=ry;exact ⟨RcAt.int_str c ct d dt,RcNeAt.int_str c ct d dt⟩
 ·obtain ⟨ct,rfl⟩:=rx;cases ry;exact ⟨RcAt.str_none c ct,RcNeAt.str_none c ct⟩
 ·obtain ⟨ct,rfl⟩:=rx;cases ry;exact ⟨RcAt.str_bool c ct d,RcNeAt.str_bool c ct d⟩
 ·obtain ⟨ct,rfl⟩:=rx;obtain ⟨dt,rfl⟩:=ry;exact ⟨RcAt.str_int c ct d dt,RcNeAt.str_int c ct d dt⟩
 ·obtain ⟨ct,rfl⟩:=rx;obtain ⟨dt,rfl⟩:=ry;exact ⟨RcAt.str_str c ct d dt,RcNeAt.str_str c ct d dt⟩
theorem Qo (I:Inv X pins σ H s) {A:Around} {d e:D} {x y:V} {u v:Value} (hu:A.units+d.dep+1 < cLine) (rx:RelV x u) (ry:RelV y v) (hx:Is X.K H x d) (hy:Is X.K H y e):RcAt A s u v (eqD d e)/\RcNeAt A s u v (!eqD d e):=by
 have hu0:A.units < cLine:=by omega
 cases d with
 | fl a =>
  unfold Is at hx;obtain ⟨rfl,fx⟩:=hx;cases e with
  | fl b =>
   unfold Is at hy;obtain ⟨rfl,fy⟩:=hy;unfold eqD;exact bT rx ry fx fy
  | tup es =>
   unfold Is at hy;obtain ⟨b,ys,rfl,k1,k2⟩:=hy;cases ry;obtain ⟨its2,r2,ht2,_⟩:=I.tuple k1;unfold eqD;rcases By fx with rfl | ⟨c,rfl⟩ | ⟨c,rfl⟩ | ⟨c,rfl⟩
   ·cases rx;exact ⟨RcAt.none_tuple ht2 hu0,RcNeAt.none_tuple ht2 hu0⟩
   ·cases rx;exact ⟨RcAt.bool_tuple c ht2 hu0,RcNeAt.bool_tuple c ht2 hu0⟩
   ·obtain ⟨t,rfl⟩:=rx;exact ⟨RcAt.int_tuple c t ht2 hu0,RcNeAt.int_tuple c t ht2 hu0⟩
   ·obtain ⟨t,rfl⟩:=rx;exact ⟨RcAt.str_tuple c t ht2 hu0,RcNeAt.str_tuple c t ht2 hu0⟩
  | lst es =>
   unfold Is at hy;obtain ⟨b,ys,rfl,k1,k2⟩:=hy;cases ry;obtain ⟨its2,r2,ht2,_⟩:=I.list k1;unfold eqD;rcases By fx with rfl | ⟨c,rfl⟩ | ⟨c,rfl⟩ | ⟨c,rfl⟩
   ·cases rx;exact ⟨RcAt.none_list ht2.isList hu0,RcNeAt.none_list ht2.isList hu0⟩
   ·cases rx;exact ⟨RcAt.bool_list c ht2.isList hu0,RcNeAt.bool_list c ht2.isList hu0⟩
   ·obtain ⟨t,rfl⟩:=rx;exact ⟨RcAt.int_list c t ht2.isList hu0,RcNeAt.int_list c t ht2.isList hu0⟩
   ·obtain ⟨t,rfl⟩:=rx;exact ⟨RcAt.str_list c t ht2.isList hu0,RcNeAt.str_list c t ht2.isList hu0⟩
 | tup ds =>
  cases e with
  | fl b =>
   unfold Is at hx hy;obtain ⟨b',ys,rfl,k1,k2⟩:=hx;obtain ⟨rfl,fy⟩:=hy;cases rx;obtain ⟨its2,r2,ht2,_⟩:=I.tuple k1;unfold eqD;rcases By fy with rfl | ⟨c,rfl⟩ | ⟨c,rfl⟩ | ⟨c,rfl⟩
   ·cases ry;exact ⟨RcAt.tuple_none ht2 hu0,RcNeAt.tuple_none ht2 hu0⟩
   ·cases ry;exact ⟨RcAt.tuple_bool c ht2 hu0,RcNeAt.tuple_bool c ht2 hu0⟩
   ·obtain ⟨t,rfl⟩:=ry;exact ⟨RcAt.tuple_int c t ht2 hu0,RcNeAt.tuple_int c t ht2 hu0⟩
   ·obtain ⟨t,rfl⟩:=ry;exact ⟨RcAt.tuple_str c t ht2 hu0,RcNeAt.tuple_str c t ht2 hu0⟩
  | tup es=>exact Ow I rfl rfl hu rx ry hx hy
  | lst es=>exact Ow I rfl rfl hu rx ry hx hy
 | lst ds =>
  cases e with
  | fl b =>
   unfold Is at hx hy;obtain ⟨b',ys,rfl,k1,k2⟩:=hx;obtain ⟨rfl,fy⟩:=hy;cases rx;obtain ⟨its2,r2,ht2,_⟩:=I.list k1;unfold eqD;rcases By fy with rfl | ⟨c,rfl⟩ | ⟨c,rfl⟩ | ⟨c,rfl⟩
   ·cases ry;exact ⟨RcAt.list_none ht2.isList hu0,RcNeAt.list_none ht2.isList hu0⟩
   ·cases ry;exact ⟨RcAt.list_bool c ht2.isList hu0,RcNeAt.list_bool c ht2.isList hu0⟩
   ·obtain ⟨t,rfl⟩:=ry;exact ⟨RcAt.list_int c t ht2.isList hu0,RcNeAt.list_int c t ht2.isList hu0⟩
   ·obtain ⟨t,rfl⟩:=ry;exact ⟨RcAt.list_str c t ht2.isList hu0,RcNeAt.list_str c t ht2.isList hu0⟩
  | tup es=>exact Ow I rfl rfl hu rx ry hx hy
  | lst es=>exact Ow I rfl rfl hu rx ry hx hy
def rEqA (K:W.Frag) (neg:Bool):R2:=fun x y H Q=>∃ d e,d.dep<=150/\Is K H x d/\Is K H y e/\Q (.bl (if neg then !eqD d e else eqD d e)) H
theorem op_eqA {j:Nat} (hr:Room j X.A):FW X (compareOp .Eq) (rEqA X.K false):=by
 intro pins s σ H x y v u Q I rx ry h;obtain ⟨d,e,hd,hx,hy,q⟩:=h;have:=hr.un;exact (Qo I (by omega) rx ry hx hy).1 X.prog X.w _ _ ⟨.bl _,H,I,rfl,q⟩
theorem op_neA {j:Nat} (hr:Room j X.A):FW X (compareOp .NotEq) (rEqA X.K true):=by
 intro pins s σ H x y v u Q I rx ry h;obtain ⟨d,e,hd,hx,hy,q⟩:=h;have:=hr.un;exact (Qo I (by omega) rx ry hx hy).2 X.prog X.w _ _ ⟨.bl _,H,I,rfl,q⟩
open Classical in
def eqW (its:List Value) (ds:List D) (e:D) (u:Value):Bool:=decide (∃ (i:Nat) (d:D),its[i]?=some u/\ds[i]?=some d/\eqD d e=true)
open Classical in
theorem eqW_at (I:Inv X pins σ H s) {xs:List V} {its:List Value} {ds:List D} (r:Am xs its) (h:IsL X.K H xs ds) {e:D} {i:Nat} {u:Value} {d:D} (hu:its[i]?=some u) (hd:ds[i]?=some d):eqW its ds e u=eqD d e:=by
 have key:∀ (j:Nat) (d':D),its[j]?=some u->ds[j]?=some d'->d'=d:=fun j d' h1 h2=>by
  obtain ⟨x,ex,px⟩:=h.get hd;obtain ⟨y,ey,py⟩:=h.get h2;obtain ⟨u1,e1,r1⟩:=r.get ex;obtain ⟨u2,e2,r2⟩:=r.get ey;rw [hu] at e1;cases e1;rw [h1] at e2;cases e2;rw [r2.inj r1] at py;exact Is.inj I py px
 unfold eqW;cases q:eqD d e with
 | true=>exact decide_eq_true ⟨i,d,hu,hd,q⟩
 | false =>
  refine decide_eq_false ?_;rintro ⟨j,d',h1,h2,h3⟩;rw [key j d' h1 h2,q] at h3;cases h3
theorem Uz (I:Inv X pins σ H s) {xs:List V} {its:List Value} {ds:List D} (r:Am xs its) (h:IsL X.K H xs ds) (e:D):its.any (eqW its ds e)=ds.any fun d=>eqD d e:=by
 rw [Bool.eq_iff_iff,List.any_eq_true,List.any_eq_true];have hl:its.length=ds.length:=by rw [<- r.length,h.length]
 constructor
 ·rintro ⟨u,hu,q⟩;obtain ⟨i,hi,rfl⟩:=List.getElem_of_mem hu;have hd:ds[i]?=some ds[i]:=List.getElem?_eq_getElem (by omega);rw [eqW_at I r h (List.getElem?_eq_getElem hi) hd] at q;exact ⟨_,List.mem_of_getElem? hd,q⟩
 ·rintro ⟨d,hd,q⟩;obtain ⟨i,hi,rfl⟩:=List.getElem_of_mem hd;have hu:its[i]?=some its[i]:=List.getElem?_eq_getElem (by omega);exact ⟨_,List.mem_of_getElem? hu,by rw [eqW_at I r h hu (List.getElem?_eq_getElem hi)];exact q⟩
theorem all_eqW (I:Inv X pins σ H s) {A:Around} {xs:List V} {its:List Value} {ds:List D} (r:Am xs its) (h:IsL X.K H xs ds) {e:D} {y:V} {v:Value} (ry:RelV y v) (hy:Is X.K H y e) (hd:depL ds<=150) (hu:A.units+150 < cLine):∀ w∈its,EqAt A s w v (eqW its ds e w):=fun w hw=>by
 obtain ⟨i,hi,rfl⟩:=List.getElem_of_mem hw;have hl:its.length=ds.length:=by rw [<- r.length,h.length]
 have hdi:ds[i]?=some ds[i]:=List.getElem?_eq_getElem (by omega);rw [eqW_at I r h (List.getElem?_eq_getElem hi) hdi];obtain ⟨x,ex,px⟩:=h.get hdi;obtain ⟨u1,e1,r1⟩:=r.get ex;rw [List.getElem?_eq_getElem hi] at e1;cases e1;exact Zh I 150 A _ _ x y _ _ (Nat.le_trans (Jh hdi) hd) hu r1 ry px hy
def rInA (K:W.Frag) (neg:Bool):R2:=fun x y H Q=>∃ p ys ds e,y=.ref p/\(HC K H p ys\/IK K H p ys)/\IsL K H ys ds/\Is K H x e/\depL ds<=150/\Q (.bl (if neg then !(ds.any fun d=>eqD d e) else ds.any fun d=>eqD d e)) H
theorem op_inA {j:Nat} (hr:Room j X.A):FW X (compareOp .In) (rInA X.K false):=by
 intro pins s σ H x y v u Q I rx ry h;obtain ⟨p,ys,ds,e,rfl,hq,hl,hx,hd,q⟩:=h;have hu:X.A.units+1+150 < cLine:=by have:=hr.un;omega
 cases ry;rcases hq with hq | hq
 ·obtain ⟨its,r,pl,hz⟩:=I.list hq;refine SeqAt.in_listAt (eqW its ds e) pl.isList (fun w hw=>all_eqW I r hl rx hx hd hu w (by simpa using hw)) ⟨.bl _,H,I,rfl,?_⟩;rw [show its.toArray.any (eqW its ds e)=its.any (eqW its ds e) by simp,Uz I r hl];exact q
 ·obtain ⟨its,r,pl,hz⟩:=I.tuple hq;refine SeqAt.in_tupleAt (eqW its ds e) pl (fun w hw=>all_eqW I r hl rx hx hd hu w (by simpa using hw)) ⟨.bl _,H,I,rfl,?_⟩;rw [show its.toArray.any (eqW its ds e)=its.any (eqW its ds e) by simp,Uz I r hl];exact q
end
end L3
namespace Q
open PySem L2
mutual
noncomputable def toD:Dt->L3.D
 | .non=>.fl .non
 | .bl b=>.fl (.bl b)
 | .int i=>.fl (.int i)
 | .str l=>.fl (.str (tx l))
 | .tup xs=>.tup (toDs xs)
 | .lst _ xs=>.lst (toDs xs)
 | _=>.fl .non
noncomputable def toDs:List Dt->List L3.D
 | []=>[]
 | d::ds=>toD d::toDs ds
end
mutual
noncomputable def Dt.cmp:Dt->Bool
 | .non=>true
 | .bl _=>true
 | .int _=>true
 | .str _=>true
 | .tup xs=>Ek xs
 | .lst _ xs=>Ek xs
 | _=>false
noncomputable def Ek:List Dt->Bool
 | []=>true
 | d::ds=>d.cmp && Ek ds
end
mutual
noncomputable def Dt.dep:Dt->Nat
 | .tup xs=>JA xs+1
 | .lst _ xs=>JA xs+1
 | _=>0
noncomputable def JA:List Dt->Nat
 | []=>0
 | d::ds=>max d.dep (JA ds)
end
mutual
noncomputable def eqT:Dt->Dt->Bool
 | .non,.non=>true
 | .bl a,.bl b=>a == b
 | .bl a,.int b=>(if a then 1 else 0) == b
 | .int a,.bl b=>a == (if b then 1 else 0)
 | .int a,.int b=>a == b
 | .str a,.str b=>a == b
 | .tup xs,.tup ys=>Km xs ys
 | .lst _ xs,.lst _ ys=>Km xs ys
 | _,_=>false
noncomputable def Km:List Dt->List Dt->Bool
 | [],[]=>true
 | x::xs,y::ys=>eqT x y && Km xs ys
 | _,_=>false
end
mutual
theorem Rj:∀ (d e:Dt),d.cmp=true->e.cmp=true->L3.eqD (toD d) (toD e)=eqT d e
 | .non,e,h,k=>by cases e<;>first | (unfold toD L3.eqD eqT;rfl) | (unfold Dt.cmp at k;cases k)
 | .bl b,e,h,k=>by cases e<;>first | (unfold toD L3.eqD eqT;rfl) | (unfold Dt.cmp at k;cases k)
 | .int i,e,h,k=>by cases e<;>first | (unfold toD L3.eqD eqT;rfl) | (unfold Dt.cmp at k;cases k)
 | .str l,e,h,k=>by
  cases e with
  | str m=>unfold toD L3.eqD eqT;rw [cq];exact (Bool.beq_eq_decide_eq l m).symm
  | _=>first | (unfold toD L3.eqD eqT;rfl) | (unfold Dt.cmp at k;cases k)
 | .tup xs,e,h,k=>by
  cases e with
  | tup ys=>unfold toD L3.eqD eqT;unfold Dt.cmp at h k;exact TH xs ys h k
  | _=>first | (unfold toD L3.eqD eqT;rfl) | (unfold Dt.cmp at k;cases k)
 | .lst o xs,e,h,k=>by
  cases e with
  | lst o' ys=>unfold toD L3.eqD eqT;unfold Dt.cmp at h k;exact TH xs ys h k
  | _=>first | (unfold toD L3.eqD eqT;rfl) | (unfold Dt.cmp at k;cases k)
 | .dic o xs,e,h,k=>by unfold Dt.cmp at h;cases h
 | .ref o,e,h,k=>by unfold Dt.cmp at h;cases h
 | .scr o,e,h,k=>by unfold Dt.cmp at h;cases h
 | .ty o,e,h,k=>by unfold Dt.cmp at h;cases h
 | .mtp o,e,h,k=>by unfold Dt.cmp at h;cases h
 | .dti _ o,e,h,k=>by unfold Dt.cmp at h;cases h
theorem TH:∀ (d e:List Dt),Ek d=true->Ek e=true->L3.eqDs (toDs d) (toDs e)=Km d e
 | [],[],_,_=>by unfold toDs L3.eqDs Km;rfl
 | [],_::_,_,_=>by simp only [toDs,L3.eqDs,Km]
 | _::_,[],_,_=>by simp only [toDs,L3.eqDs,Km]
 | x::xs,y::ys,h,k=>by
  unfold Ek at h k;rw [Bool.and_eq_true] at h k;simp only [toDs,L3.eqDs,Km];rw [Rj x y h.1 k.1,TH xs ys h.2 k.2]
end
mutual
theorem gD:∀ (d:Dt),(toD d).dep=d.dep
 | .non=>by unfold toD L3.D.dep Dt.dep;rfl
 | .bl b=>by unfold toD L3.D.dep Dt.dep;rfl
 | .int i=>by unfold toD L3.D.dep Dt.dep;rfl
 | .str l=>by unfold toD L3.D.dep Dt.dep;rfl
 | .tup xs=>by unfold toD L3.D.dep Dt.dep;rw [Md xs]
 | .lst o xs=>by unfold toD L3.D.dep Dt.dep;rw [Md xs]
 | .dic o xs=>by unfold toD L3.D.dep Dt.dep;rfl
 | .ref o=>by unfold toD L3.D.dep Dt.dep;rfl
 | .scr o=>by unfold toD L3.D.dep Dt.dep;rfl
 | .ty o=>by unfold toD L3.D.dep Dt.dep;rfl
 | .mtp o=>by unfold toD L3.D.dep Dt.dep;rfl
 | .dti _ o=>by unfold toD L3.D.dep Dt.dep;rfl
theorem Md:∀ (d:List Dt),L3.depL (toDs d)=JA d
 | []=>by unfold toDs L3.depL JA;rfl
 | x::xs=>by simp only [toDs,L3.depL,JA];rw [gD x,Md xs]
end
section
variable {K:W.Frag} {g:G} {H:Hp}
mutual
theorem Rep.is:∀ {d:Dt} {v:V} {P:Fp},Rep K g H d v P->d.cmp=true->L3.Is K H v (toD d)
 | .non,v,P,h,_=>by rw [Ov h];unfold toD L3.Is;exact ⟨rfl,rfl⟩
 | .bl b,v,P,h,_=>by rw [Dp h];unfold toD L3.Is;exact ⟨rfl,rfl⟩
 | .int i,v,P,h,_=>by rw [Ap h];unfold toD L3.Is;exact ⟨rfl,rfl⟩
 | .str l,v,P,h,_=>by rw [CA h];unfold toD L3.Is;exact ⟨rfl,rfl⟩
 | .tup xs,v,P,h,c=>by
  obtain ⟨a,vs,rfl,h1,h2⟩:=h.tup;unfold Dt.cmp at c;unfold toD L3.Is;exact ⟨a,vs,rfl,h1,AG.isL h2 c⟩
 | .lst o xs,v,P,h,c=>by
  obtain ⟨a,vs,P',rfl,h1,h2⟩:=h.lst;unfold Dt.cmp at c;unfold toD L3.Is;exact ⟨a,vs,rfl,.inl (.inl h1),AG.isL h2 c⟩
 | .dic o xs,v,P,h,c=>by unfold Dt.cmp at c;cases c
 | .ref o,v,P,h,c=>by unfold Dt.cmp at c;cases c
 | .scr o,v,P,h,c=>by unfold Dt.cmp at c;cases c
 | .ty o,v,P,h,c=>by unfold Dt.cmp at c;cases c
 | .mtp o,v,P,h,c=>by unfold Dt.cmp at c;cases c
 | .dti _ o,v,P,h,c=>by unfold Dt.cmp at c;cases c
theorem AG.isL:∀ {d:List Dt} {v:List V} {P:Fp},AG K g H d v P->Ek d=true->L3.IsL K H v (toDs d)
 | [],v,P,h,_=>by
  unfold AG at h;obtain ⟨rfl,_⟩:=h;unfold toDs L3.IsL
  trivial
 | x::xs,v,P,h,c=>by
  unfold AG at h;obtain ⟨u,r,P1,P2,rfl,h1,h2,_⟩:=h;unfold Ek at c;rw [Bool.and_eq_true] at c;unfold toDs L3.IsL;exact ⟨Rep.is h1 c.1,AG.isL h2 c.2⟩
end
def Sk (neg:Bool) (ds:List Dt):Option Dt:=match ds with | [a,b]=>bif a.cmp && b.cmp && decide (a.dep<=150) then some (.bl (if neg then !eqT a b else eqT a b)) else none | _=>none
abbrev YA:=Sk false
abbrev cB:=Sk true
theorem CH {neg:Bool}:Bc K (Sk neg) (NH (L3.rEqA K neg)):=by
 intro g H ds vs d Q zd ra e k;unfold Sk at e;split at e
 ·rename_i a b;cases c:a.cmp && b.cmp && decide (a.dep<=150) with
  | false=>rw [c] at e;cases e
  | true =>
   rw [c,cond_true] at e;cases e;rw [Bool.and_eq_true,Bool.and_eq_true,decide_eq_true_eq] at c;obtain ⟨v,P,w,R,rfl,h1,h2⟩:=ra.two;refine ⟨toD a,toD b,by rw [gD];exact c.2,h1.is c.1.1,h2.is c.1.2,?_⟩;rw [Rj a b c.1.1 c.1.2];exact k _ _ (CO.bl _)
 ·cases e
def PZ (e:Dt) (ds:List Dt):Bool:=ds.any fun d=>eqT d e
noncomputable def sq:Dt->Option (List Dt)
 | .lst _ xs=>some xs
 | .tup xs=>some xs
 | .mtp ls=>some (ls.map .str)
 | _=>none
def VO (x l:List Nat):Bool:=!(Builtin.Str.occurrences (tx l) (tx x) 0 (tx l).length 1).isEmpty
def Xz (neg:Bool) (ds:List Dt):Option Dt:=match ds with
 | [.str x,.str l]=>some (.bl (if neg then !VO x l else VO x l))
 | [e,s]=>match sq s with
  | some xs=>bif e.cmp && Ek xs && decide (JA xs<=150) then some (.bl (if neg then !PZ e xs else PZ e xs)) else none
  | none=>none
 | _=>none
abbrev qq:=Xz false
def lG (neg:Bool):R2:=fun x y H Q=>∃ i j,x=.str i/\y=.str j/\Q (.bl (if neg then !(!(Builtin.Str.occurrences j i 0 j.length 1).isEmpty) else !(Builtin.Str.occurrences j i 0 j.length 1).isEmpty)) H
def lH (K:W.Frag) (neg:Bool):R2:=fun x y H Q=>lG neg x y H Q\/L3.rInA K neg x y H Q
theorem mj (e:Dt) (he:e.cmp=true):∀ (ds:List Dt),Ek ds=true->((toDs ds).any fun d=>L3.eqD d (toD e))=PZ e ds
 | [],_=>by unfold toDs PZ;rfl
 | d::ds,h=>by
  unfold Ek at h;rw [Bool.and_eq_true] at h;unfold PZ;simp only [toDs,List.any_cons];rw [Rj d e h.1 he,mj e he ds h.2];rfl
theorem AG.strsL:∀ (ls:List (List Nat)),AG K g H (ls.map .str) (ls.map fun l=>V.str (tx l)) BS
 | []=>AG.nil
 | l::ls=>(AG.cons (v:=.str (tx l)) (by unfold Rep;exact ⟨rfl,fun _ z=>z⟩) (AG.strsL ls) fun _ z=>z.elim).iff fun a=>⟨fun z=>z.elim,fun z=>z.elim id id⟩
theorem iE {neg:Bool}:Bc K (Xz neg) (NH (lH K neg)):=by
 intro g H ds vs d Q zd ra e k;unfold Xz at e;split at e
 ·rename_i x l;cases e;obtain ⟨v,P,w,R,rfl,h1,h2⟩:=ra.two;rw [CA h1,CA h2];exact .inl ⟨_,_,rfl,rfl,k _ _ (CO.bl _)⟩
 ·rename_i a s _;split at e
  ·rename_i xs es;cases c:a.cmp && Ek xs && decide (JA xs<=150) with
   | false=>rw [c] at e;cases e
   | true =>
    rw [c,cond_true] at e;cases e;rw [Bool.and_eq_true,Bool.and_eq_true,decide_eq_true_eq] at c;obtain ⟨v,P,w,R,rfl,h1,h2⟩:=ra.two;have go:∀ p ys,w=.ref p->(HC K H p ys\/IK K H p ys)->(∃ P',AG K g H xs ys P')->L3.rInA K neg v w H Q:=by
     rintro p ys rfl hs ⟨P',hr⟩;refine ⟨p,ys,toDs xs,toD a,rfl,hs,hr.isL c.1.2,h1.is c.1.1,by rw [Md];exact c.2,?_⟩;rw [mj a c.1.1 xs c.1.2];exact k _ _ (CO.bl _)
    cases s with
    | lst o ys =>
     simp only [sq.eq_def,Option.some.injEq] at es;subst es;obtain ⟨p,us,P',rfl,ha,hx⟩:=h2.lst;exact .inr (go p us rfl (.inl (.inl (.inl ha))) ⟨P',hx⟩)
    | tup ys =>
     simp only [sq.eq_def,Option.some.injEq] at es;subst es;obtain ⟨p,us,rfl,ha,hx⟩:=h2.tup;exact .inr (go p us rfl (.inr ha) ⟨R,hx⟩)
    | mtp ls =>
     simp only [sq.eq_def,Option.some.injEq] at es;subst es;unfold Rep at h2;obtain ⟨⟨p,rfl,hm⟩,_⟩:=h2;exact .inr (go p _ rfl (.inr (.inr hm)) ⟨BS,AG.strsL ls⟩)
    | _=>cases es
  ·cases e
 ·cases e
noncomputable def Dt.isNon:Dt->Bool
 | .non=>true
 | _=>false
noncomputable def qo (ds:List Dt):Option Dt:=match ds with | [d,.non]=>some (.bl d.isNon) | _=>none
noncomputable def pf (ds:List Dt):Option Dt:=match ds with | [d,.non]=>some (.bl (!d.isNon)) | _=>none
noncomputable def dB:List Dt->Option (List Bool)
 | []=>some []
 | .bl b::ds=>(dB ds).map (b::·)
 | _=>none
noncomputable def OE:List Dt->Option (List Int)
 | []=>some []
 | .int b::ds=>(OE ds).map (b::·)
 | _=>none
noncomputable def IM:List Dt->Option (List (List Nat))
 | []=>some []
 | .str b::ds=>(IM ds).map (b::·)
 | _=>none
theorem Uu:∀ {ds:List Dt} {bs:List Bool} {vs:List V} {P:Fp},AG K g H ds vs P->dB ds=some bs->vs=bs.map V.bl
 | [],bs,vs,P,h,e=>by unfold AG at h;simp only [dB,Option.some.injEq] at e;subst e;exact h.1
 | d::ds,bs,vs,P,h,e=>by
  unfold AG at h;obtain ⟨v,r,P1,P2,rfl,h1,h2,_⟩:=h;cases d<;>simp only [dB,Option.map_eq_some_iff,reduceCtorEq] at e;obtain ⟨bs',e,rfl⟩:=e;rw [Dp h1,Uu h2 e];rfl
theorem Nj:∀ {ds:List Dt} {bs:List (List Nat)} {vs:List V} {P:Fp},AG K g H ds vs P->IM ds=some bs->vs=(bs.map tx).map V.str
 | [],bs,vs,P,h,e=>by unfold AG at h;simp only [IM,Option.some.injEq] at e;subst e;exact h.1
 | d::ds,bs,vs,P,h,e=>by
  unfold AG at h;obtain ⟨v,r,P1,P2,rfl,h1,h2,_⟩:=h;cases d<;>simp only [IM,Option.map_eq_some_iff,reduceCtorEq] at e;obtain ⟨bs',e,rfl⟩:=e;rw [CA h1,Nj h2 e];rfl
def PJ (ds:List Dt):Option Dt:=match ds with | [.lst _ xs]=>(dB xs).map fun bs=>.bl (bs.all id) | _=>none
def qv (ds:List Dt):Option Dt:=match ds with | [.lst _ xs]=>(dB xs).map fun bs=>.bl (bs.any id) | _=>none
theorem PD:Bc K PJ (lJ K):=by
 intro g H ds vs d Q zd ra e k;unfold PJ at e;split at e
 ·simp only [Option.map_eq_some_iff] at e;obtain ⟨bs,e,rfl⟩:=e;obtain ⟨v,P,rfl,h1⟩:=ra.one;obtain ⟨p,us,P',rfl,ha,hx⟩:=h1.lst;rw [Uu hx e] at ha;exact ⟨p,bs,rfl,.inl (.inl ha),k _ _ (CO.bl _)⟩
 ·cases e
def qk (ds:List Dt):Option Dt:=match ds with
 | [.lst _ xs]=>(OE xs).map fun ns=>.int ns.sum
 | [.tup xs]=>(OE xs).map fun ns=>.int ns.sum
 | _=>none
noncomputable def nv:List Int->Int
 | []=>0
 | [a]=>a
 | a::r=>max a (nv r)
def pk (ds:List Dt):Option Dt:=match ds with
 | [.lst _ xs]=>match OE xs with | some (n::ns)=>some (.int (nv (n::ns))) | _=>none
 | _=>none
noncomputable def pq (ds:List Dt):Option Dt:=match ds with | [.int i,.int j]=>some (.int (if j > i then j else i)) | _=>none
noncomputable def pj (ds:List Dt):Option Dt:=match ds with | [.int i,.int j]=>some (.int (if j < i then j else i)) | _=>none
noncomputable def pw (ds:List Dt):Option Dt:=match ds with | [.int i]=>some (.int i) | [.bl b]=>some (.int (if b then 1 else 0)) | _=>none
def Zb (i:Int):List Nat:=(toString i:Str).cps.toList
def pZ (ds:List Dt):Option Dt:=match ds with | [.int i]=>if i.natAbs < 2 ^ 64 then some (.str (Zb i)) else none | _=>none
def Bp (ds:List Dt):Option Dt:=match ds with
 | [.lst _ xs]=>bif cps xs then some (.tup xs) else none
 | [.tup xs]=>bif cps xs then some (.tup xs) else none
 | _=>none
theorem BR:Bc K Bp (Qq K):=by
 intro g H ds vs d Q zd ra e k;unfold Bp at e;split at e
 ·rename_i o xs;cases c:cps xs with
  | false=>rw [c] at e;cases e
  | true =>
   rw [c,cond_true] at e;cases e;obtain ⟨v,P,rfl,h1⟩:=ra.one;obtain ⟨p,us,P',rfl,ha,hx⟩:=h1.lst;exact ⟨p,us,rfl,.inl ⟨.inl (.inl ha),fun l hl=>k _ _ (CO.tupNew hl (hx.cp c))⟩⟩
 ·rename_i xs;cases c:cps xs with
  | false=>rw [c] at e;cases e
  | true =>
   rw [c,cond_true] at e;cases e;obtain ⟨v,P,rfl,h1⟩:=ra.one;obtain ⟨p,us,rfl,ha,hx⟩:=h1.tup;exact ⟨p,us,rfl,.inr ⟨ha,k _ _ (CO.old (h1.cp (by unfold Dt.cp;exact c)))⟩⟩
 ·cases e
def KS (ds:List Dt):Option Dt:=match ds with
 | [.lst _ xs]=>bif cps xs then some (.lst true xs) else none
 | [.tup xs]=>bif cps xs then some (.lst true xs) else none
 | [.scr ns]=>some (.lst true (ns.map .int))
 | _=>none
theorem Kz:Bc K KS (Tr K):=by
 intro g H ds vs d Q zd ra e k;unfold KS at e;split at e
 ·rename_i o xs;cases c:cps xs with
  | false=>rw [c] at e;cases e
  | true =>
   rw [c,cond_true] at e;cases e;obtain ⟨v,P,rfl,h1⟩:=ra.one;obtain ⟨p,us,P',rfl,ha,hx⟩:=h1.lst;exact ⟨p,us,rfl,.inl (.inl (.inl ha)),fun l hl=>k _ _ (CO.lst zd hl (hx.cp c))⟩
 ·rename_i xs;cases c:cps xs with
  | false=>rw [c] at e;cases e
  | true =>
   rw [c,cond_true] at e;cases e;obtain ⟨v,P,rfl,h1⟩:=ra.one;obtain ⟨p,us,rfl,ha,hx⟩:=h1.tup;exact ⟨p,us,rfl,.inr ha,fun l hl=>k _ _ (CO.lst zd hl (hx.cp c))⟩
 ·rename_i ns;cases e;obtain ⟨v,P,rfl,h1⟩:=ra.one;obtain ⟨p,rfl,ha⟩:=h1.scr;exact ⟨p,_,rfl,.inl ha,fun l hl=>k _ _ (CO.lst zd hl (AG.ints ns))⟩
 ·cases e
end
noncomputable def Dt.ofTy (T:String):Dt->Bool
 | .str _=>T == "str"
 | .lst _ _=>T == "list"
 | _=>false
noncomputable def Sd (T:String) (o:Om) (m:M):Bool:=match o with
 | .ev _=>true
 | .rf i=>match (m.ρ[i]?).join with
  | some d=>d.ofTy T
  | none=>false
def Hc (T:String) (p:Pr) (o:Om) (os:List Om) (m:M):Option (Dt×M):=bif Sd T o m then do
    let (ds,m1) <- AV (o::os) m
    match ds with
    | d::_=>bif d.ofTy T then (p ds).map fun r=>(r,m1) else none
    | _=>none
  else none
def Kf (K:W.Frag) (p:Pr) (r:V->List V->Hp->VK->Prop):Prop:=Bc K p fun vs H Q=>match vs with | x::xs=>r x xs H Q | _=>False
section
variable {K:W.Frag} {g:G} {H:Hp} {σ:St}
theorem Rep.tyV {T:String} {d:Dt} {v:V} {P:Fp} (h:Rep K g H d v P) (t:d.ofTy T=true):L2.tyV K T v H:=by
 cases d with
 | str l =>
  rw [CA h];unfold Dt.ofTy at t;exact eq_of_beq t
 | lst o xs =>
  obtain ⟨a,us,P',rfl,ha,_⟩:=h.lst;unfold Dt.ofTy at t;exact .inl ⟨eq_of_beq t,us,.inl (.inl ha)⟩
 | _=>unfold Dt.ofTy at t;cases t
theorem RO {T:String} {p:Pr} {o:Om} {os:List Om} {r:V->List V->Hp->VK->Prop} (hp:Kf K p r) {Q:VK} (h:tq K (Hc T p o os) σ H Q):nF K T r (VM K o) (JO K os) σ H Q:=by
 obtain ⟨g,m,P,rl,d,m',e,k⟩:=h;unfold Hc at e;cases ct:Sd T o m with
 | false=>rw [ct] at e;cases e
 | true =>
  rw [ct,cond_true] at e;simp only [Option.bind_eq_bind,Option.bind_eq_some_iff,Prod.exists] at e;obtain ⟨ds,m1,e1,e⟩:=e;split at e
  ·rename_i d0 dr;cases c0:d0.ofTy T with
   | false=>rw [c0] at e;cases e
   | true =>
    rw [c0,cond_true] at e;simp only [Option.map_eq_some_iff,Prod.mk.injEq] at e;obtain ⟨rr,e2,rfl,rfl⟩:=e;have fin:∀ {g':G} {P' Pv:Fp} {vs:List V} {H':Hp},Step g P H g' (fun a=>P' a\/Pv a) H'->RA K g' H' (d0::dr) vs->Rel K g' H' m1 σ P'->match vs with | x::xs=>r x xs H' Q | _=>False:=fun {g' P' Pv vs H'} s ra r1=>by
     refine hp g' H' _ vs rr Q r1.zd ra e2 fun v H2 nw=>?_
     obtain ⟨Pw,s2,h1,r2,n2⟩:=CO.go s r1 nw;exact k g' P' Pw v H2 s2 h1 r2 n2
    cases o with
    | ev f =>
     simp only [AV,Option.bind_eq_bind,Option.bind_eq_some_iff,Option.some.injEq,Prod.mk.injEq,Prod.exists,List.cons.injEq] at e1;obtain ⟨d1,m2,f1,dr',m3,f2,⟨rfl,rfl⟩,rfl⟩:=e1;refine ⟨g,m,P,rl,d1,m2,f1,fun g1 P1 Pv v H1 s1 rv r1 n1=>⟨rv.tyV c0,Ba os r1 f2 fun g2 P2 Pw vs H2 s2 rs r2 n2=>?_⟩⟩;have hv2:=rv.held s2 r1.fpOk fun a q z=>n1 a z q
     have ra:RA K g2 H2 (d1::dr') (v::vs):=by unfold RA;exact ⟨v,vs,Pv,rfl,hv2,AU.ra r2 rs⟩
     exact fin (P':=P2) (Pv:=fun a=>Pw a\/Pv a) (s1.trans (s2.frame (R:=Pv)) |>.sub (fun _ q=>q) fun a q=>q.elim (fun q=>.inl (.inl q)) fun q=>q.elim (fun q=>.inl (.inr q)) .inr) ra r2
    | rf i =>
     unfold Sd at ct;simp only at ct;simp only [AV,Option.bind_eq_bind,Option.bind_eq_some_iff,Option.some.injEq,Prod.mk.injEq,Prod.exists,List.cons.injEq] at e1;obtain ⟨dd,f0,dr',m3,f2,d1,f3,⟨rfl,rfl⟩,rfl⟩:=e1;rw [f0] at ct;obtain ⟨v,P0,ev,rv,_⟩:=rl.see (CJ f0);refine ⟨v,ev,rv.tyV ct,Ba os rl f2 fun g2 P2 Pw vs H2 s2 rs r2 n2=>?_⟩;obtain ⟨v',P3,ev',rv',_⟩:=r2.see (CJ f3);rw [ev] at ev';cases ev';have ra:RA K g2 H2 (d1::dr') (v::vs):=by unfold RA;exact ⟨v,vs,P3,rfl,rv',AU.ra r2 rs⟩
     exact fin s2 ra r2
  ·cases e
end
section
variable {X:Cx} {o e:Expr} {es:List Expr} {oo:Om} {name:Str} {apos cpos:Pos} {T id:String} {p:Pr} {r:V->List V->Hp->VK->Prop} {os:List Om}
theorem hJ (pa:PlainAttrs T) (slot:Slot T name id) (hty:typeOf (.builtin id)=pure (.type "method_descriptor")) (hm:ah X id r) (hR:Kf X.K p r) (ho:QO X o oo) (ha:QA X (e::es) os)
    (hbase:attributeBase o name X.env (eval o X.env)=eval o X.env:=by rfl)
    (hfew:((backTo cpos (starEach (e::es) X.env)).all (fun x=>!x.1) && (backToKw cpos (keywordEach [] X.env)).all (fun x=>x.1.isSome)
      && decide ((e::es).length+([]:List Keyword).length+(if ([]:List Keyword).isEmpty then 0 else 1) < 30))=true:=by rfl)
    (hline:(apos.endLine == cpos.line)=true:=by rfl) (hs:starEach (e::es) X.env=(false,eval e X.env)::starEach es X.env:=by rfl) (hplain:(backTo cpos (starEach es X.env)).any (·.1)=false:=by rfl):QE X (.Call (.Attribute o name apos) (e::es) [] cpos) (Hc T p oo os):=⟨PE.imp (Xv X.K pa slot hty hm ho.h ha.h hbase hfew hline hs hplain) fun _ _ _ h=>RO hR h⟩
theorem bY (pa:PlainAttrs T) (slot:Slot T name id) (hty:typeOf (.builtin id)=pure (.type "method_descriptor")) (hm:ah X id r) (hR:Kf X.K p r) (ho:QO X o oo)
    (hbase:attributeBase o name X.env (eval o X.env)=eval o X.env:=by rfl) (hline:(apos.endLine == cpos.line)=true:=by rfl):QE X (.Call (.Attribute o name apos) [] [] cpos) (Hc T p oo []):=⟨PE.imp (bx X.K pa slot hty hm ho.h hbase hline) fun _ _ _ h=>RO (os:=[]) hR h⟩
end
section
variable {K:W.Frag}
def MA (ds:List Dt):Option Dt:=match ds with
 | [.str sep,.lst _ xs]=>match IM xs with
  | some ys=>if (ys.map List.length).sum+ys.length * sep.length<=1000000 then some (.str (jn sep ys)) else none
  | none=>none
 | _=>none
theorem bj:Kf K MA (Xa K):=by
 intro g H ds vs d Q zd ra e k;unfold MA at e;split at e
 ·split at e
  ·rename_i sep o xs _ ys e1;split at e
   ·rename_i hz;cases e;obtain ⟨v,P,w,R,rfl,h1,h2⟩:=ra.two;obtain ⟨a,us,P',rfl,ha,hx⟩:=h2.lst;rw [CA h1];rw [Nj hx e1] at ha;refine ⟨tx sep,a,ys.map tx,rfl,rfl,.inl (.inl ha),?_,?_⟩
    ·rw [gZ,List.length_map,Et];exact Nat.le_trans hz (by decide)
    ·rw [kX];exact k _ _ (CO.str _)
   ·cases e
  ·cases e
 ·cases e
noncomputable def Ir (ds:List Dt):Option Dt:=match ds with
 | [.str l]=>bif l.all (fun c=>decide (c < 128)) && decide (l.length<=1000000) then some (.str (l.map PyProof.Rows.up1)) else none
 | _=>none
theorem Xl:Kf K Ir XU:=by
 intro g H ds vs d Q zd ra e k;unfold Ir at e;split at e
 ·rename_i l;cases c:l.all (fun c=>decide (c < 128)) && decide (l.length<=1000000) with
  | false=>rw [c] at e;cases e
  | true =>
   rw [c,cond_true] at e;cases e;rw [Bool.and_eq_true,decide_eq_true_eq,List.all_eq_true] at c;obtain ⟨v,P,rfl,h1⟩:=ra.one;rw [CA h1];exact ⟨l,rfl,rfl,fun x hx=>of_decide_eq_true (c.1 x hx),c.2,k _ _ (CO.str _)⟩
 ·cases e
def Pn (e:Dt):List Dt->Option Nat
 | []=>none
 | d::ds=>if eqT d e then some 0 else (Pn e ds).map (·+1)
theorem OF (e:Dt):∀ (ds:List Dt) (j:Nat),Pn e ds=some j->(∃ d,ds[j]?=some d/\eqT d e=true)/\∀ (i:Nat) (d:Dt),i < j->ds[i]?=some d->eqT d e=false
 | [],j,h=>by cases h
 | d::ds,j,h=>by
  unfold Pn at h
  by_cases c:eqT d e=true
  ·rw [if_pos c] at h;cases h;exact ⟨⟨d,rfl,c⟩,fun i _ hi=>by omega⟩
  ·rw [if_neg c] at h;simp only [Option.map_eq_some_iff] at h;obtain ⟨k,hk,rfl⟩:=h;obtain ⟨h1,h2⟩:=OF e ds k hk;refine ⟨by simpa using h1,fun i d' hi hd=>?_⟩;cases i with
   | zero=>simp at hd;subst hd;simpa using c
   | succ i=>exact h2 i d' (by omega) (by simpa using hd)
def bU (K:W.Frag):V->List V->Hp->VK->Prop:=fun x vs H Q=>∃ p xs y ds e j,x=.ref p/\vs=[y]/\HC K H p xs/\L3.IsL K H xs ds/\L3.Is K H y e/\L3.depL ds<=150/\(∃ d,ds[j]?=some d/\L3.eqD d e=true)/\(∀ (m:Nat) (d:L3.D),m < j->ds[m]?=some d->L3.eqD d e=false)/\Q (.int (j:Nat)) H
theorem kK {X:Cx} {j:Nat} (hr:Room j X.A):ah X "list.index" (bU X.K):=by
 intro pins s σ H x vs v us Q I rx rv h;obtain ⟨p,xs,y,ds,e,j,rfl,rfl,hp,hds,hy,hdp,⟨dj,ej,hit⟩,hno,q⟩:=h;cases rx;obtain ⟨u,rfl,ru⟩:=rv.one;obtain ⟨its,r,pl,hz⟩:=I.list hp;obtain ⟨⟨cls,dd,data,sl⟩,ho,hc,n,hd⟩:=pl.isList;simp only at hc hd;subst hc hd;have hu:X.A.units+1+150 < cLine:=by have:=hr.un;omega
 have hl:its.length=ds.length:=by rw [<- r.length,hds.length]
 have hj:j < ds.length:=(List.getElem?_eq_some_iff.mp ej).1;have hs:sizeLine=16777216:=sizeLine_eq;have hxl:=r.length;have at_:∀ m (hm:m < its.toArray.size),∃ d,ds[m]?=some d/\L3.eqW its ds e its.toArray[m]=L3.eqD d e:=fun m hm=>by
  have hm':m < its.length:=by simpa using hm
  have hd:ds[m]?=some ds[m]:=List.getElem?_eq_getElem (by omega);exact ⟨ds[m],hd,by simpa using L3.eqW_at I r hds (List.getElem?_eq_getElem hm') hd⟩
 refine call_meets F.slot_list_index ⟨_,ho,rfl⟩ F.entry_list_index (F.args_list_index_2 _ _)
  (SeqAt.list_indexAt p its.toArray n dd sl u (L3.eqW its ds e) j (by simpa [hl] using hj) (by omega) ?_ ?_) ⟨ho,fun w hw=>L3.all_eqW I r hds ru hy hdp hu w (by simpa using hw),⟨.int (j:Nat),H,I.tok _,⟨_,rfl⟩,q⟩⟩
 ·obtain ⟨w,e1,e2⟩:=at_ j (by simpa [hl] using hj);rw [ej] at e1;cases e1;rw [e2];exact hit
 ·intro m hm hlt;obtain ⟨w,e1,e2⟩:=at_ m hm;rw [e2];exact hno m w hlt e1
theorem Lb:∀ (ds:List Dt) (i:Nat),(toDs ds)[i]?=(ds[i]?).map toD
 | [],i=>by unfold toDs;simp
 | d::ds,0=>by unfold toDs;simp
 | d::ds,i+1=>by
  have:=Lb ds i;simp only [toDs,List.getElem?_cons_succ];exact this
theorem Rx {ds:List Dt} (h:Ek ds=true):∀ {i:Nat} {d:Dt},ds[i]?=some d->d.cmp=true:=by
 induction ds with
 | nil=>intro i d e;simp at e
 | cons x xs ih =>
  unfold Ek at h;rw [Bool.and_eq_true] at h;intro i d e;cases i with
  | zero=>simp at e;subst e;exact h.1
  | succ i=>exact ih h.2 (i:=i) (by simpa using e)
theorem jQ {e:Dt} {ds:List Dt} {j:Nat} (he:e.cmp=true) (hd:Ek ds=true) (h:Pn e ds=some j) :
    (∃ d,(toDs ds)[j]?=some d/\L3.eqD d (toD e)=true)/\∀ (m:Nat) (d:L3.D),m < j->(toDs ds)[m]?=some d->L3.eqD d (toD e)=false:=by
  obtain ⟨⟨d,h1,h2⟩,h3⟩:=OF e ds j h;refine ⟨⟨toD d,by rw [Lb,h1];rfl,by rw [Rj d e (Rx hd h1) he];exact h2⟩,fun m d' hm hd'=>?_⟩;rw [Lb] at hd';cases q:ds[m]? with
  | none=>rw [q] at hd';cases hd'
  | some dm =>
    rw [q] at hd';cases hd';rw [Rj dm e (Rx hd q) he];exact h3 m dm hm q
def nt (ds:List Dt):Option Dt:=match ds with
 | [.lst _ xs,e]=>bif e.cmp && Ek xs && decide (JA xs<=150) then (Pn e xs).map fun j=>.int (j:Nat) else none
 | _=>none
def Qs (K:W.Frag):V->List V->Hp->VK->Prop:=fun x vs H Q=>∃ p xs y ds e j,x=.ref p/\vs=[y]/\H p=some (.tup xs)/\L3.IsL K H xs ds/\L3.Is K H y e/\L3.depL ds<=150/\(∃ d,ds[j]?=some d/\L3.eqD d e=true)/\(∀ (m:Nat) (d:L3.D),m < j->ds[m]?=some d->L3.eqD d e=false)/\Q (.int (j:Nat)) H
theorem Sr {X:Cx} {j:Nat} (hr:Room j X.A):ah X "tuple.index" (Qs X.K):=by
 intro pins s σ H x vs v us Q I rx rv h;obtain ⟨p,xs,y,ds,e,j,rfl,rfl,hp,hds,hy,hdp,⟨dj,ej,hit⟩,hno,q⟩:=h;cases rx;obtain ⟨u,rfl,ru⟩:=rv.one;obtain ⟨hz,its,r,⟨cls,dd,data,sl⟩,ho,hc,hdd,n,hd⟩:=I.hok p _ hp;simp only at hc hd;subst hc hd;have hu:X.A.units+1+150 < cLine:=by have:=hr.un;omega
 have hl:its.length=ds.length:=by rw [<- r.length,hds.length]
 have hj:j < ds.length:=(List.getElem?_eq_some_iff.mp ej).1;have at_:∀ m (hm:m < its.toArray.size),∃ d,ds[m]?=some d/\L3.eqW its ds e its.toArray[m]=L3.eqD d e:=fun m hm=>by
  have hm':m < its.length:=by simpa using hm
  have hd:ds[m]?=some ds[m]:=List.getElem?_eq_getElem (by omega);exact ⟨ds[m],hd,by simpa using L3.eqW_at I r hds (List.getElem?_eq_getElem hm') hd⟩
 refine call_meets F.slot_tuple_index ⟨_,ho,rfl⟩ F.entry_tuple_index (F.args_tuple_index_2 _ _)
  (NJ p its.toArray n dd sl u (L3.eqW its ds e) j (by simpa [hl] using hj) ?_ ?_) ⟨ho,fun w hw=>L3.all_eqW I r hds ru hy hdp hu w (by simpa using hw),⟨.int (j:Nat),H,I.tok _,⟨_,rfl⟩,q⟩⟩
 ·obtain ⟨w,e1,e2⟩:=at_ j (by simpa [hl] using hj);rw [ej] at e1;cases e1;rw [e2];exact hit
 ·intro m hm hlt;obtain ⟨w,e1,e2⟩:=at_ m hm;rw [e2];exact hno m w hlt e1
def Hy (ds:List Dt):Option Dt:=match ds with
 | [.tup xs,e]=>bif e.cmp && Ek xs && decide (JA xs<=150) then (Pn e xs).map fun j=>.int (j:Nat) else none
 | _=>none
theorem VZ:Kf K Hy (Qs K):=by
 intro g H ds vs d Q zd ra e k;unfold Hy at e;split at e
 ·rename_i xs a;cases c:a.cmp && Ek xs && decide (JA xs<=150) with
  | false=>rw [c] at e;cases e
  | true =>
   rw [c,cond_true] at e;rw [Bool.and_eq_true,Bool.and_eq_true,decide_eq_true_eq] at c;simp only [Option.map_eq_some_iff] at e;obtain ⟨j,e1,rfl⟩:=e;obtain ⟨v,P,w,R,rfl,h1,h2⟩:=ra.two;obtain ⟨p,us,rfl,ha,hx⟩:=h1.tupH;obtain ⟨q1,q2⟩:=jQ c.1.1 c.1.2 e1;exact ⟨p,us,w,toDs xs,toD a,j,rfl,rfl,ha,hx.isL c.1.2,h2.is c.1.1,by rw [Md];exact c.2,q1,q2,k _ _ (CO.int _)⟩
 ·cases e
def IE (p:Pr) (f:Ev Dt) (os:List Om) (m:M):Option (Dt×M):=do
 let (ds,m1) <- AV (.ev f::os) m
 match ds with
 | .tup _::_=>(p ds).map fun r=>(r,m1)
 | _=>none
theorem Vs {σ:St} {H:Hp} {p:Pr} {f:Ev Dt} {os:List Om} {r:V->List V->Hp->VK->Prop} (hp:Kf K p r) {Q:VK} (h:tq K (IE p f os) σ H Q):pY r (tq K f) (JO K os) σ H Q:=by
 obtain ⟨g,m,P,rl,d,m',e,k⟩:=h;simp only [IE,Option.bind_eq_bind,Option.bind_eq_some_iff,Prod.exists] at e;obtain ⟨ds,m1,e1,e⟩:=e;split at e
 ·rename_i xs dr;simp only [Option.map_eq_some_iff,Prod.mk.injEq] at e;obtain ⟨rr,e2,rfl,rfl⟩:=e;simp only [AV,Option.bind_eq_bind,Option.bind_eq_some_iff,Option.some.injEq,Prod.mk.injEq,Prod.exists,List.cons.injEq] at e1;obtain ⟨d1,m2,f1,dr',m3,f2,⟨rfl,rfl⟩,rfl⟩:=e1;refine ⟨g,m,P,rl,_,m2,f1,fun g1 P1 Pv v H1 s1 rv r1 n1=>⟨?_,Ba os r1 f2 fun g2 P2 Pw vs H2 s2 rs r2 n2=>?_⟩⟩
  ·obtain ⟨a,us,rfl,ha,_⟩:=rv.tupH;exact ⟨a,us,rfl,ha⟩
  ·have hv2:=rv.held s2 r1.fpOk fun a q z=>n1 a z q
   have ra:RA K g2 H2 (.tup xs::dr') (v::vs):=by unfold RA;exact ⟨v,vs,Pv,rfl,hv2,AU.ra r2 rs⟩
   refine hp g2 H2 _ (v::vs) rr Q r2.zd ra e2 fun v2 H3 nw=>?_
   obtain ⟨Pz,s3,h1,r3,n3⟩:=CO.go (P:=P2) (Px:=fun a=>Pw a\/Pv a) (s1.trans (s2.frame (R:=Pv)) |>.sub (fun _ q=>q) fun a q=>q.elim (fun q=>.inl (.inl q)) fun q=>q.elim (fun q=>.inl (.inr q)) .inr) r2 nw;exact k g2 P2 Pz v2 H3 s3 h1 r3 n3
 ·cases e
end
section
variable {X:Cx} {o e:Expr} {es:List Expr} {f:Ev Dt} {name:Str} {apos cpos:Pos} {id:String} {p:Pr} {r:V->List V->Hp->VK->Prop} {os:List Om}
theorem bX (slot:Slot "tuple" name id) (hty:typeOf (.builtin id)=pure (.type "method_descriptor")) (hm:ah X id r) (hR:Kf X.K p r) (ho:QE X o f) (ha:QA X (e::es) os)
    (hbase:attributeBase o name X.env (eval o X.env)=eval o X.env:=by rfl)
    (hfew:((backTo cpos (starEach (e::es) X.env)).all (fun x=>!x.1) && (backToKw cpos (keywordEach [] X.env)).all (fun x=>x.1.isSome)
      && decide ((e::es).length+([]:List Keyword).length+(if ([]:List Keyword).isEmpty then 0 else 1) < 30))=true:=by rfl)
    (hline:(apos.endLine == cpos.line)=true:=by rfl) (hs:starEach (e::es) X.env=(false,eval e X.env)::starEach es X.env:=by rfl) (hplain:(backTo cpos (starEach es X.env)).any (·.1)=false:=by rfl):QE X (.Call (.Attribute o name apos) (e::es) [] cpos) (IE p f os):=⟨PE.imp (lU PySem.F.plainAttrs_tuple slot hty hm ho.h ha.h hbase hfew hline hs hplain) fun _ _ _ h=>Vs hR h⟩
end
section
variable {K:W.Frag}
noncomputable def Yy:Dt->Option String
 | .non=>some "NoneType"
 | .bl _=>some "bool"
 | .int _=>some "int"
 | .str _=>some "str"
 | .tup _=>some "tuple"
 | .lst _ _=>some "list"
 | _=>none
noncomputable def RX (k T:String):Bool:=k == T || (k == "bool" && T == "int")
def Ki (ds:List Dt):Option Dt:=match ds with
 | [d,.ty T]=>bif ["int", "bool", "str", "tuple", "list"].contains T then (Yy d).map fun k=>.bl (RX k T) else none
 | _=>none
theorem jH (K:W.Frag) {k T:String} (hk:k∈["NoneType", "bool", "int", "str", "tuple", "list"]) (hT:T∈["int", "bool", "str", "tuple", "list"]):W.kitOne K (.type k) (.type T)=some (RX k T):=by
 simp only [List.mem_cons,List.not_mem_nil,or_false] at hk hT;rcases hk with rfl | rfl | rfl | rfl | rfl | rfl<;>rcases hT with rfl | rfl | rfl | rfl | rfl<;>kernel_rfl
theorem Iq:Bc K Ki (gx K):=by
 intro g H ds vs d Q zd ra e k;unfold Ki at e;split at e
 ·rename_i a T
  cases c:["int", "bool", "str", "tuple", "list"].contains T with
  | false=>rw [c] at e;cases e
  | true =>
   rw [c,cond_true] at e
   have hT:T∈["int", "bool", "str", "tuple", "list"]:=by simpa using c
   obtain ⟨v,P,w,R,rfl,h1,h2⟩:=ra.two;have hw:w=.ty T:=by unfold Rep at h2;exact h2.1
   subst hw
   have go:∀ kd,TyOf K H v (.type kd)->kd∈["NoneType", "bool", "int", "str", "tuple", "list"]->some (Dt.bl (RX kd T))=some d->gx K [v,.ty T] H Q:=fun kd ty hk he=>by
    cases he;exact ⟨v,T,.type kd,_,rfl,ty,jH K hk hT,k _ _ (CO.bl _)⟩
   cases a with
   | non=>rw [Ov h1] at go ⊢;exact go "NoneType" .non (by simp) e
   | bl b=>rw [Dp h1] at go ⊢;exact go "bool" (.bl _) (by simp) e
   | int b=>rw [Ap h1] at go ⊢;exact go "int" (.int _) (by simp) e
   | str b=>rw [CA h1] at go ⊢;exact go "str" (.str _) (by simp) e
   | tup b=>obtain ⟨p,us,rfl,ha,_⟩:=h1.tupH;exact go "tuple" (.tup ha) (by simp) e
   | lst o b=>obtain ⟨p,us,P',rfl,ha,_⟩:=h1.lst;exact go "list" (.lst ha) (by simp) e
   | _=>cases e
 ·cases e
theorem Se {X:Cx} {x:Str} {n:String} {pos:Pos} (h:PE X (.Name x pos) (tC (.ty n))):QE X (.Name x pos) (Aa (.ty n)):=nJ h fun _ _ _=>by unfold Rep;exact ⟨rfl,fun _ z=>z⟩
noncomputable def Sj (ds:List Dt):Option Dt:=match ds with
 | [.int i,.int j]=>some (.bl (decide (i<=j)))
 | [.str a,.str b]=>some (.bl (!decide (b < a)))
 | _=>none
def lA:R2:=fun x y H Q=>(VX fun i j=>.bl (decide (i<=j))) x y H Q\/∃ i j,x=.str i/\y=.str j/\Q (.bl (!decide (j.cps.toList < i.cps.toList))) H
theorem ig {X:Cx}:FW X (compareOp .LtE) (fun x y H Q=>∃ i j,x=.str i/\y=.str j/\Q (.bl (!decide (j.cps.toList < i.cps.toList))) H):=by
 intro pins s σ H x y v u Q I rx ry h;obtain ⟨i,j,rfl,rfl,q⟩:=h;obtain ⟨t,rfl⟩:=rx;obtain ⟨t',rfl⟩:=ry;exact PySem.P.le_str ⟨.bl _,H,I,rfl,q⟩
theorem UC {X:Cx}:FW X (compareOp .LtE) lA:=lh.or ig
theorem Xm:Bc K Sj (NH lA):=by
 intro g H ds vs d Q zd ra e k;unfold Sj at e;split at e
 ·cases e;obtain ⟨v,P,w,R,rfl,h1,h2⟩:=ra.two;rw [Ap h1,Ap h2];exact .inl ⟨_,_,rfl,rfl,k _ _ (CO.bl _)⟩
 ·cases e;obtain ⟨v,P,w,R,rfl,h1,h2⟩:=ra.two;rw [CA h1,CA h2];refine .inr ⟨_,_,rfl,rfl,?_⟩;rw [Ku,Ku];exact k _ _ (CO.bl _)
 ·cases e
def qm (ds:List Dt):Option Dt:=match ds with | [.lst _ xs]=>bif cps xs then some (.lst true xs.reverse) else none | _=>none
def pb (ds:List Dt):Option Dt:=match ds with | [.lst _ xs,.int i]=>if i = -1 then bif cps xs then some (.lst true xs.reverse) else none else none | _=>none
end
section
end
def AO (f:Ev Dt) (m:M):Option (Dt×M):=do
 let (d,m') <- f m
 some (d.fz,m')
section
variable {X:Cx} {e:Expr} {f:Ev Dt} {io:List Nat} {pos pos':Pos} {i:Nat} {x:Str}
theorem AQ (h:QE X e f):QE X e (AO f):=⟨PE.imp h.h fun σ H Q q=>by
 obtain ⟨g,m,P,r,d,m',e,k⟩:=q;simp only [AO,Option.bind_eq_bind,Option.bind_eq_some_iff,Prod.exists,Option.some.injEq,Prod.mk.injEq] at e;obtain ⟨d1,m1,e1,rfl,rfl⟩:=e;refine ⟨g,m,P,r,d1,m1,e1,fun g' P' Pv v H' s rv r1 n=>?_⟩;have st:Step g' Pv H' (g'.add Pv) BS H':=Step.freeze rv.fpOk;refine k (g'.add Pv) P' BS v H' ?_ (rv.freeze (fun _ q=>q) fun a q=>(rv.fpOk a q).1) (r1.held st rv.fpOk fun a q z=>n a q z) fun _ _ z=>z
 exact s.trans ((st.frame (R:=P')).sub (fun a q=>q.symm) fun a q=>q.elim .inr fun z=>z.elim)⟩
def qI (i:Nat) (f:Int->Int->Int) (fe:Ev Dt) (m:M):Option (Fl×M):=match (m.ρ[i]?).join with
 | some (.int a)=>do
  let (d,m') <- fe m
  match d with
  | .int b=>if i < m'.ρ.length then some (.nx,m'.set i (some (.int (f a b)))) else none
  | _=>none
 | _=>none
end
noncomputable abbrev SI:Nat:=1000000
theorem ij {X:Cx}:FW X (compareOp .In) (lG false):=Vf
theorem ik {X:Cx} {j:Nat} (hr:Room j X.A):FW X (compareOp .In) (lH X.K false):=ij.or (L3.op_inA hr)
def To (K:W.Frag):Sp:=fun vs H Q _=>∃ (a:Addr) (ns:List Int),vs=[.ref a]/\HC K H a (ns.map V.int)/\ns.length<=63/\dJ H/\∀ H',Q (.bl true) H'
theorem jD {P:Program} {w:World} {K:W.Frag} {mg:Str->Option Value} {base:Heap} {k:Nat} {f:Addr} {fd:FuncData} {x:Str} {Φ:Fn} (F:FnOk P w K mg base IJ k f fd [x] (ER K 1 [] Φ)) (h:∀ ns:List Int,ns.length<=63->Φ [.scr ns] []=some (.bl true,[],[])) :
    FnOk P w K mg base IJ k f fd [x] (To K):=F.imp fun vs H Q E q=>by
  obtain ⟨a,ns,rfl,hS,hn,hO,q⟩:=q;have hs:nS K H a ns:=by
    rcases hS with (h1 | h1) | h1
    · rcases hO a with z | ⟨o,xs,z⟩
      · rw [h1] at z;cases z
      · rw [h1] at z;cases z
    · exact .inl h1
    · exact .inr h1
  refine ⟨⟨fun _=>False,[]⟩,[.scr ns],[],BS,BS,rfl,fun _ z=>z.elim,?_,⟨rfl,fun _ z=>z⟩,fun _ z=>z.elim,_,_,_,h ns hn,fun g' H' v Pv Pb Ps' _ _ rv _ _ _ _ _=>by rw [Dp rv];exact q H'⟩;refine (AG.cons (v:=.ref a) (P1:=BS) (by unfold Rep;exact ⟨⟨a,rfl,hs⟩,fun _ z=>z⟩) AG.nil fun _ z=>z.elim).iff fun a=>⟨fun z=>z.elim,fun z=>z.elim id id⟩
noncomputable abbrev tI (xs:List Int):Dt:=.tup (xs.map .int)
@[simp] theorem Ru (d:Dt) (ds:List Dt):cps (d::ds)=(d.cp && cps ds):=by simp only [cps]
@[simp] theorem ja (xs:List Dt):(Dt.tup xs).cp=cps xs:=by simp only [Dt.cp]
@[simp] theorem Zp (o:Bool) (xs:List Dt):(Dt.lst o xs).cp=(!o && cps xs):=by simp only [Dt.cp]
mutual
theorem fv:∀ (d:Dt),d.cp=true->d.fz=d
 | .non,_=>by simp only [Dt.fz]
 | .bl _,_=>by simp only [Dt.fz]
 | .int _,_=>by simp only [Dt.fz]
 | .str _,_=>by simp only [Dt.fz]
 | .tup xs,h=>by simp only [Dt.fz];rw [MQ xs (by simpa using h)]
 | .lst o xs,h=>by
  simp only [Zp,Bool.and_eq_true,Bool.not_eq_true'] at h;simp only [Dt.fz];rw [MQ xs h.2,h.1]
 | .dic _ _,_=>by simp only [Dt.fz]
 | .ref _,_=>by simp only [Dt.fz]
 | .scr _,_=>by simp only [Dt.fz]
 | .ty _,_=>by simp only [Dt.fz]
 | .mtp _,_=>by simp only [Dt.fz]
 | .dti o _,h=>by unfold Dt.cp at h;cases o<;>first | rfl | cases h
theorem MQ:∀ (ds:List Dt),cps ds=true->cc ds=ds
 | [],_=>by simp only [cc]
 | d::ds,h=>by
  rw [Ru,Bool.and_eq_true] at h;simp only [cc];rw [fv d h.1,MQ ds h.2]
end
@[simp] theorem aS {α β:Type} (f:α->β) (xs:List α) (i:Int):Gy (xs.map f) i=(Gy xs i).map f:=by
 unfold Gy;rw [List.length_map];cases Qb xs.length i with
 | none=>rfl
 | some j=>simp
end Q
set_option maxHeartbeats 2000000
set_option maxHeartbeats 2000000
namespace L2
open PySem PySem.Spec PyProof.Rows
noncomputable def cT (ifs:List Expr) (env:Env):Sem Bool:=forIn ifs true fun c r=>if r=true then do let ok <- isTrue c env (eval c env);pure (ForInStep.yield ok) else pure (ForInStep.yield r)
def gP (X:Cx) (ifs:List Expr) (t:TT):Prop:=
 ∀ (pins:List (Addr×Obj)) (s:Shared) (σ:St) (H:Hp) (Q:Bool->Hp->Prop),Inv X pins σ H s->t σ H Q->wpAny (model X.prog X.w) X.A (cT ifs X.env) (TP X pins σ Q) X.xe s
theorem gP.one {X:Cx} {c:Expr} {t:TT} (h:PT X c t):gP X [c] t:=fun pins s σ H Q I q=>wpAny_tests_one (h pins s σ H Q I q)
theorem QF {prog:Program} {w:World} {A:Around} {R:Result->Shared->Prop} {s:Shared} {elt target iter:Expr} {ifs:List Expr} {scope:Scope} {pos:Pos} {it acc:Value} {env:Env} (I:Nat->Shared->Prop)
    (turn:∀ n s,I n s->wpAny (model prog w) A (pyNext it) (fun r s₁=>match r with
      | none=>R (.ok .next) s₁
      | some v=>wpAny (model prog w) A (letOwnedTupleGo target it v) (fun _ s₂=>wpAny (model prog w) A (assign target env v) (fun _ s₃=>wpAny (model prog w) A (cT ifs env) (fun ok s₄=>if ok=true then wpAny (model prog w) A (eval elt env) (fun x s₅ =>
          wpAny (model prog w) A (call (.builtin "list.append") [acc,x]) (fun _ s₆=>∃ m,m < n/\I m s₆) (fun _ _=>False) s₅) (fun _ _=>False) s₄ else ∃ m,m < n/\I m s₄) (fun _ _=>False) s₃) (fun _ _=>False) s₂) (fun _ _=>False) s₁) (fun _ _=>False) s)
    (n:Nat) (h:I n s) :
    codeAny (model prog w) A (.compLoop (.ListComp elt [⟨target,iter,ifs,0⟩] scope pos) 0 it acc env) R s:=by
  refine codeAny_loop rfl I (fun n s hI=>?_) n h;show wpAny _ _ ((compTurn (.ListComp elt [⟨target,iter,ifs,0⟩] scope pos) 0 it acc env).onRaise (fun x=>do noteFrame x env;theTreesLotGoes x)) _ _ s;refine wpAny_noted ?_;rw [compTurn_list];have no:∀ {E:Value->Shared->Prop},∀ (e:Value) (s:Shared),False->E e s:=fun _ _ z=>z.elim
  refine wpAny_bind (wpAny_standAt (wpAny_bind (wpAny_mono (turn n s hI) (fun r s₁ h₁=>?_) no)));cases r with
  | none=>exact wpAny_pure h₁
  | some v =>
    refine wpAny_bind (wpAny_mono h₁ (fun _ s₂ h₂=>?_) no);refine wpAny_bind (wpAny_mono h₂ (fun _ s₃ h₃=>wpAny_bind (wpAny_mono h₃ (fun ok s₄ h₄=>?_) no)) no);cases ok with
    | false=>exact wpAny_pure ⟨rfl,h₄⟩
    | true=>exact wpAny_bind (wpAny_bind (wpAny_mono h₄ (fun x s₅ h₅=>wpAny_bind (wpAny_mono h₅ (fun _ s₆ h₆=>wpAny_pure (wpAny_pure ⟨rfl,h₆⟩)) no)) no))
section
variable {X:Cx} {tg iter elt:Expr} {ifs:List Expr} {scope:Scope} {pos:Pos} {g:TG} {te:TE} {tc:TT} {js:List Nat} {wi:TI}
def ak (js:List Nat) (g:TG) (tc:TT) (te:TE) (J:It) (σ:St) (Fin:List V->Hp->Prop) (W:Nat->Nat->List V->Hp->Prop):Prop:=∀ i m ys H,W i m ys H ->
 (J.stop i H/\Fin ys H)\/(J.go i H/\ys.length < sizeLine/\∃ N:List V->Hp->Prop,(∀ zs H',N zs H'->∃ m',m' < m/\W (i+1) m' zs H')/\∀ x H',J.yld i H x H'->g x (blank js σ) H' fun σ2 H2=>tc σ2 H2 fun b H3=>if b=true then te σ2 H3 fun v H4=>N (ys++[v]) H4 else N ys H3)
theorem Ke {pins:List (Addr×Obj)} {s2:Shared} {σ:St} {H2:Hp} {it:Addr} {fp:List Addr} {tn:Nat->Heap->Prop} {J:It} {cl:List (Str×Addr)} {W:Nat->Nat->List V->Hp->Prop} {Fin:List V->Hp->Prop} {E:Value->Shared->Prop} {RR:Value->Addr->Result->Shared->Prop}
    (hin:InnerIn X.N X.env.scope scope js) (hc:X.calm=true) (hg:∀ cl C s H fp,PG (X.inner scope cl C s H fp) tg g) (hgo:ai js g) (hcn:∀ cl C s H fp,gP (X.inner scope cl C s H fp) ifs tc) (he:∀ cl C s H fp,PE (X.inner scope cl C s H fp) elt te)
    (I2:Inv X pins σ H2 s2) (T:Turn X.prog X.w X.K tg J fp it tn) (t0:tn 0 s2.heap) (hf:∀ b∈fp,FpOk X pins H2 b)
    (hcl:∀ x c,cl.lookup x=some c->X.env.cells.lookup x=some c) (hfr:∀ x,scope.names.lookup x=some .free->∃ c,cl.lookup x=some c)
    {m0:Nat} (w0:W 0 m0 [] H2) (turn:ak js g tc te J σ Fin W)
    (hRR:∀ D C s' H' ys m,Inv X pins σ (upd H' D (.lst ys)) s'->H' D=none->Fin ys H'->s'.heap.Ns C m->C≠X.env.locals->X.s₀.heap.objs.size<=C->(∀ x c,X.env.cells.lookup x=some c->c≠C)->(∀ p∈X.pn++pins,p.1≠C)->H' C=none->D≠C->RR (.ref D) C (.ok .next) s') :
    wpAny (model X.prog X.w) X.A (newList []) (fun acc s₃=>wpAny (model X.prog X.w) X.A (newFunctionEnv scope X.env.globals cl [] X.env.qual none .none (some X.env)) (fun cenv s₄ =>
      codeAny (model X.prog X.w) X.A (.compStart (.ListComp elt [⟨tg,iter,ifs,0⟩] scope pos) 0 (.ref it) acc { cenv with scope:=relabel scope X.env }) (RR acc cenv.locals) s₄) E s₃) E s2:=by
  have hfe:∀ b∈fp,b < s2.heap.objs.size:=fun b hb=>let ⟨_,e,_⟩:=T.obj _ _ t0 b hb;Heap.lt_size e
  refine wpAny_newObj_type (Ea ?_);dsimp only
  generalize hHH:s2.heap.push { cls:=.type "list", dict:=none,data:=.seq ([]:List Value).toArray }=HH
  have hC:HH.objs.size=s2.heap.objs.size+1:=by rw [<- hHH,Heap.size_push]
  have hDC:s2.heap.objs.size≠HH.objs.size:=by rw [hC];exact Nat.ne_of_lt (Nat.lt_succ_self _)
  have hCle:s2.heap.objs.size<=HH.objs.size:=by rw [hC];exact Nat.le_succ _
  have below:∀ b,b < s2.heap.objs.size->b≠HH.objs.size/\b≠s2.heap.objs.size:=fun b hb=>⟨by rw [hC];exact Nat.ne_of_lt (Nat.lt_succ_of_lt hb),Nat.ne_of_lt hb⟩
  obtain ⟨h₁,hh₁⟩:∃ h₁,pushCells (HH.push { cls:=.type "dict", data:=.dict #[] }) scope.names=h₁:=⟨_,rfl⟩
  have old:∀ b o,s2.heap.get? b=some o->h₁.get? b=some o:=fun b o e=>hh₁▸pushCells_keeps _ _ b o (Heap.get?_push_of_some _ (hHH▸Heap.get?_push_of_some _ e))
  have hacc:h₁.get? s2.heap.objs.size=some { cls:=.type "list", data:=.seq ([]:List Value).toArray 0 }:=hh₁▸pushCells_keeps _ _ _ _ (Heap.get?_push_of_some _ (hHH▸Heap.get?_push_size _ rfl))
  have hns₁:h₁.Ns HH.objs.size (fun _=>none):=hh₁▸(Heap.Ns.new HH (.type "dict")).keeps (pushCells_keeps _ _)
  obtain ⟨L,hown⟩:=cw (s:=s2) (C:=HH.objs.size) hin hcl hfr (h:=HH.push { cls:=.type "dict", data:=.dict #[] }) hCle (Heap.size_push ..)
  rw [hh₁] at hown ⊢;generalize hcc:cellsFrom (HH.objs.size+1) scope.names cl=cl' at L hown ⊢;clear hh₁ hcc;generalize hDD:s2.heap.objs.size=D at *;generalize hCC:HH.objs.size=C at *;have hDle:s2.heap.objs.size<=D:=Nat.le_of_eq hDD;have hCle':s2.heap.objs.size<=C:=by rw [hDD];exact hCle
  have nocell:∀ (its:List Value) (n:Nat) v,({ cls:=.type "list", data:=.seq its.toArray n }:Obj).data≠.cell v:=fun _ _ _ z=>by cases z
  have I4:Inv (X.inner scope cl' C s2 H2 fp) (pins++[(D,{ cls:=.type "list", data:=.seq ([]:List Value).toArray 0 })]) (blank js σ) H2 { s2 with heap:=h₁,toks:=s2.toks }:=
    I2.enter hin hf (by rw [hDD];exact hfe) hCle' hDle hDC L hown old hns₁ hacc (nocell _ _)
  have stat:∀ {H':Hp} {o:Obj},(∀ b∈fp,H' b=none)->∀ b∈fp,FpOk (X.inner scope cl' C s2 H2 fp) (pins++[(D,o)]) H' b:=fun {H' o} hn b hb=>by
    obtain ⟨_,f1,f2,f3,f4,f5⟩:=hf b hb;refine ⟨hn b hb,(below b (hfe b hb)).1,fun z=>?_,.inl hb,fun x c e=>L.ne e (by rw [hDD];exact hfe b hb) f4,fun p hp=>?_⟩
    · rcases List.mem_cons.mp (I2.stkSub b z) with e | e
      · exact f1 e
      · exact f2 e
    · have hp':p∈X.pn++(pins++[(D,o)]):=hp;rw [<- List.append_assoc] at hp';rcases List.mem_append.mp hp' with z | z
      · exact f5 p z
      · have e:p=(D,o):=by simpa using z
        subst e;exact fun z=>(below b (hfe b hb)).2 z.symm
  have loop:∀ s₃:Shared,s₃={ s2 with heap:=h₁,toks:=s2.toks } ->
      codeAny (model X.prog X.w) X.A (.compLoop (.ListComp elt [⟨tg,iter,ifs,0⟩] scope pos) 0 (.ref it) (.ref D) (compEnvC scope cl' C X.env)) (RR (.ref D) C) s₃:=by
    rintro s₃ rfl
    refine QF (fun n s'=>∃ i ys its k H',Inv (X.inner scope cl' C s2 H2 fp) (pins++[(D,{ cls:=.type "list", data:=.seq its.toArray k })]) (blank js σ) H' s'/\tn i s'.heap/\(∀ b∈fp,H' b=none)/\Am ys its/\ys.length<=sizeLine/\W i n ys H') ?_ m0
      ⟨0,[],[],0,H2,I4,T.keep _ _ _ t0 fun b hb o e=>old b o e,fun b hb=>(hf b hb).1,.nil,Nat.zero_le _,w0⟩
    rintro n s3 ⟨i,ys,its,k,H3,I3,st3,fr3,hv3,hz3,w3⟩;rcases turn i n ys H3 w3 with ⟨stop,fin⟩ | ⟨go,hlt,N,hN,step⟩
    · refine CQ (T.done (X.inner scope cl' C s2 H2 fp) rfl rfl rfl hc i _ s3 _ H3 _ I3 (stat fr3) st3 stop) fun r s4 ⟨hr,I4⟩=>?_
      subst hr
      have pD:=I4.pin (D,{ cls:=.type "list", data:=.seq its.toArray k }) (List.mem_append_right _ (List.mem_append_right _ List.mem_cons_self))
      obtain ⟨m,hn,_⟩:=id I4.loc;refine hRR D C s4 H3 ys m (I2.leave (fp:=fp) hf rfl I4 hDle pD.2.1 hz3 hv3 pD.1) pD.2.1 fin hn ?_ ?_ (fun x c e=>?_) (fun p hp=>?_) I4.free hDC
      · exact Nat.ne_of_gt (Nat.lt_of_lt_of_le I2.lt hCle')
      · exact Nat.le_trans I2.sz hCle'
      · exact Nat.ne_of_lt (Nat.lt_of_lt_of_le (I2.cellLt e) hCle')
      · exact Nat.ne_of_lt (Nat.lt_of_lt_of_le (I2.pinLt hp) hCle')
    · refine CQ (T.item (X.inner scope cl' C s2 H2 fp) rfl rfl rfl hc i _ s3 _ H3 _ I3 (stat fr3) st3 go) fun r s4 ⟨u,hr,h4⟩=>?_
      subst hr;refine CQ h4 fun _ s5 ⟨x,H5,I5,r5,y5,st5,fr5⟩=>?_
      have I5':=I5.pinned (stat fr5) (T.obj _ _ st5);refine CQ (hg cl' C s2 H2 fp _ s5 _ H5 x u _ I5' r5 (hgo _ _ _ _ (step x H5 y5))) fun _ s6 ⟨σ6,H6,I6,⟨hl6,hs6⟩,q6⟩=>?_
      refine CQ (hcn cl' C s2 H2 fp _ s6 σ6 H6 _ I6 q6) fun ok s6b ⟨H6b,I6b,q6b⟩=>?_
      have other:∀ (s7:Shared) (v:Value) (b:Addr) (u:Obj),b≠D->s7.heap.get? b=some u->(s7.heap.update D (Obj.mapSeq fun a=>a.push v)).get? b=some u:=fun s7 v b u hb hu=>(Heap.get?_update_other s7.heap (Obj.mapSeq fun a=>a.push v) (Ne.symm hb)).trans hu
      cases ok with
      | false =>
        obtain ⟨m',hm,w7⟩:=hN _ _ q6b
        have pD:=I6b.pin (D,{ cls:=.type "list", data:=.seq its.toArray k }) (List.mem_append_right _ (List.mem_append_left _ (List.mem_append_right _ List.mem_cons_self)))
        have fpk:∀ b∈fp,∀ o,s5.heap.get? b=some o->s6b.heap.get? b=some o/\H6b b=none:=fun b hb o e =>
          let z:=I6b.pin (b,o) (List.mem_append_right _ (List.mem_append_right _ (GZ hb e)));⟨z.1,z.2.1⟩
        have I8:Inv (X.inner scope cl' C s2 H2 fp) pins (blank js σ) H6b s6b:=by
          have Ia:Inv (X.inner scope cl' C s2 H2 fp) pins σ6 H6b s6b:=I6b.pins_of fun p hp=>I6b.pin p (List.mem_append_right _ (List.mem_append_left _ (List.mem_append_left _ hp)))
          exact Ia.weak hl6.symm fun i v e=>by
            obtain ⟨hj,_⟩:=KM js σ i v e;rw [hs6 i hj];exact e
        refine ⟨m',hm,i+1,ys,its,k,H6b,I8.pins_of (fun p hp=>?_),T.keep _ _ _ st5 fun b hb o e=>(fpk b hb o e).1,fun b hb=>?_,hv3,hz3,w7⟩
        · rcases List.mem_append.mp hp with z | z
          · exact I8.pin p (List.mem_append_right _ z)
          · have e:p=(D,_):=List.mem_singleton.mp z;subst e;exact ⟨pD.1,pD.2.1,pD.2.2.1,pD.2.2.2.1,nocell _ _⟩
        · obtain ⟨o,e,_⟩:=T.obj _ _ st5 b hb;exact (fpk b hb o e).2
      | true =>
      refine CQ (he cl' C s2 H2 fp _ s6b σ6 H6b _ I6b q6b) fun v s7 ⟨y,H7,I7,r7,n7⟩=>?_
      obtain ⟨m',hm,w7⟩:=hN _ _ n7
      have pD:=I7.pin (D,{ cls:=.type "list", data:=.seq its.toArray k }) (List.mem_append_right _ (List.mem_append_left _ (List.mem_append_right _ List.mem_cons_self)))
      have lt:its.toArray.size<=sizeLine:=by rw [List.size_toArray,<- hv3.length];exact hz3
      refine call_meets F.slot_list_append ⟨_,pD.1,rfl⟩ F.entry_list_append (F.args_list_append_2 _ _) (PySem.list_append D its.toArray k v lt) ⟨pD.1,?_⟩
      obtain ⟨k',q⟩:∃ k',(s7.heap.update D (Obj.mapSeq fun a=>a.push v)).get? D=some { cls:=.type "list", data:=.seq (its.toArray.push v) k' }:=⟨_,PySem.IsL.update pD.1 (fun a=>a.push v)⟩
      have eq:(its.toArray.push v)=(its++[v]).toArray:=by simp
      have fpk:∀ b∈fp,∀ o,s5.heap.get? b=some o->s7.heap.get? b=some o/\H7 b=none:=fun b hb o e =>
        let z:=I7.pin (b,o) (List.mem_append_right _ (List.mem_append_right _ (GZ hb e)));⟨z.1,z.2.1⟩
      have other:∀ b u,b≠D->s7.heap.get? b=some u->(s7.heap.update D (Obj.mapSeq fun a=>a.push v)).get? b=some u:=fun b u hb hu=>(Heap.get?_update_other s7.heap (Obj.mapSeq fun a=>a.push v) (Ne.symm hb)).trans hu
      have I8:Inv (X.inner scope cl' C s2 H2 fp) pins (blank js σ) H7 { s7 with heap:=s7.heap.update D (Obj.mapSeq fun a=>a.push v),toks:=s7.toks }:=by
        have Ia:Inv (X.inner scope cl' C s2 H2 fp) pins σ6 H7 s7:=I7.pins_of fun p hp=>I7.pin p (List.mem_append_right _ (List.mem_append_left _ (List.mem_append_left _ hp)))
        have Ib:Inv (X.inner scope cl' C s2 H2 fp) pins (blank js σ) H7 s7:=Ia.weak hl6.symm fun i v e=>by
          obtain ⟨hj,_⟩:=KM js σ i v e;rw [hs6 i hj];exact e
        refine Ib.turned (it:=D) (fun b o hb e=>other b o hb e) pD.2.1 pD.2.2.1 (.inr hDle) (fun x c e=>?_) (fun p hp=>?_)
        · cases q:BN scope x with
          | false=>exact Nat.ne_of_lt (Nat.lt_of_lt_of_le (I2.cellLt (L.old x c e q)) hDle)
          | true=>exact Nat.ne_of_gt (Nat.lt_of_le_of_lt hCle (L.own x c e q).2)
        · exact Nat.ne_of_lt (Nat.lt_of_lt_of_le (I2.pinLt hp) hDle)
      refine ⟨m',hm,i+1,ys++[y],its++[v],k',H7,I8.pins_of (fun p hp=>?_),T.keep _ _ _ st5 fun b hb o e=>other b o (below b (hfe b hb)).2 (fpk b hb o e).1,fun b hb=>?_,hv3.append (.cons r7 .nil),by rw [List.length_append,List.length_singleton];omega,w7⟩
      · rcases List.mem_append.mp hp with z | z
        · exact I8.pin p (List.mem_append_right _ z)
        · have e:p=(D,_):=List.mem_singleton.mp z;subst e;rw [<- eq];exact ⟨q,pD.2.1,pD.2.2.1,pD.2.2.2.1,nocell _ _⟩
      · obtain ⟨o,e,_⟩:=T.obj _ _ st5 b hb;exact (fpk b hb o e).2
  exact codeAny_compStart_list (loop _ rfl) (T.self _ 0 _ _ _ (T.keep _ _ _ t0 fun b hb o e=>old b o e) (loop _ rfl))
def SY (wi:TI) (js:List Nat) (g:TG) (tc:TT) (te:TE):TE:=fun σ H Q=>wi σ H fun J H1=>∃ W:Nat->Nat->List V->Hp->Prop,(∃ m,W 0 m [] H1)/\ak js g tc te J σ (fun ys H=>∀ p,H p=none->Q (.ref p) (upd H p (.lst ys))) W
theorem Xs (hin:innerOk X.N X.env.scope scope js=true) (hc:X.calm=true) (hi:PI X tg iter wi) (hg:∀ cl C s H fp,PG (X.inner scope cl C s H fp) tg g) (hgo:ai js g) (hcn:∀ cl C s H fp,gP (X.inner scope cl C s H fp) ifs tc) (he:∀ cl C s H fp,PE (X.inner scope cl C s H fp) elt te)
    (hs:∀ x,foldedSetIterable iter X.env x=pure x:=by intro _;rfl):PE X (.ListComp elt [⟨tg,iter,ifs,0⟩] scope pos) (SY wi js g tc te):=by
  intro pins s σ H Q I h;have hin:=MM hin;obtain ⟨cl,hclos,hcl,hfr⟩:=Mg (scope:=scope) (env:=X.env) (fun x hx=>I.ok.has x (hin.fr x hx)) hin.uniqF;rw [eval_ListComp];refine wpAny_comprehension_free (use:=none) rfl hs hclos hin.kind hin.uniqL ?_;refine CQ (hi pins s σ H _ I h) fun v s1 h1=>CQ h1 fun itv s2 h2=>?_
  obtain ⟨it,fp,tn,J,H2,e,I2,T,st2,f2,W,⟨m0,w0⟩,turn⟩:=h2;subst e;refine Ke (RR:=fun acc C=>compPost (model X.prog X.w) X.A X.xe none (EP X pins σ Q) acc C) hin hc hg hgo hcn he I2 T st2 f2 hcl hfr w0 turn ?_;intro D C s' H' ys m I' hD fin hn c1 c2 c3 c4 c5 c6;refine ⟨m,hn,fun h' sb=>⟨.ref D,_,I'.turned (t':=s'.toks) (it:=C) (fun b o hb e=>(sb.2 b hb).trans e) ?_ c1 (.inr c2) c3 c4,rfl,fin D hD⟩⟩;rw [BL (Ne.symm c6)];exact c5
theorem Xj {i:Nat} {x:Str} {pos' spos:Pos} (hN:X.N.Nodup) (hix:X.N[i]?=some x) (hx:Loc X.env.scope x)
    (hin:innerOk X.N X.env.scope scope js=true) (hc:X.calm=true) (hi:PI X tg iter wi) (hg:∀ cl C s H fp,PG (X.inner scope cl C s H fp) tg g) (hgo:ai js g) (hcn:∀ cl C s H fp,gP (X.inner scope cl C s H fp) ifs tc) (he:∀ cl C s H fp,PE (X.inner scope cl C s H fp) elt te)
    (hsw:swapsWith (.ListComp elt [⟨tg,iter,ifs,0⟩] scope pos) (some (.Name x pos')) spos.line X.env=pure true:=by rfl)
    (hs:∀ x,foldedSetIterable iter X.env x=pure x:=by intro _;rfl)
    (hf:X.fn x=true\/X.env.scope.names.lookup x=some .local:=by first | exact .inl rfl | exact .inr rfl | assumption) :
    PS X (.Assign [.Name x pos'] (.ListComp elt [⟨tg,iter,ifs,0⟩] scope pos) spos) (XC (SY wi js g tc te) (MP i)):=by
  intro pins s σ H D I h;have hin:=MM hin;obtain ⟨cl,hclos,hcl,hfr⟩:=Mg (scope:=scope) (env:=X.env) (fun x hx=>I.ok.has x (hin.fr x hx)) hin.uniqF;rw [exec_Assign_Name_used _ _ _ _ hsw];refine wpAny_bind (wpAny_standAt (wpAny_bind ?_));show wpAny _ _ (do let _ <- comprehension (.ListComp elt [⟨tg,iter,ifs,0⟩] scope pos) scope X.env _ (newList []) false (eval iter X.env) (some (assign (.Name x pos') X.env))) _ _ s;refine wpAny_bind (CQ (wpAny_comprehension_free (use:=some (assign (.Name x pos') X.env)) (Q:=fun _ s'=>SP X pins D .next s') rfl hs hclos hin.kind hin.uniqL ?_) (fun _ s' hq=>wpAny_pure (wpAny_pure hq)));refine CQ (hi pins s σ H _ I h) fun v s1 h1=>CQ h1 fun itv s2 h2=>?_
  obtain ⟨it,fp,tn,J,H2,e,I2,T,st2,f2,W,⟨m0,w0⟩,turn⟩:=h2;subst e;refine Ke (RR:=fun acc C=>compPost (model X.prog X.w) X.A X.xe (some (assign (.Name x pos') X.env)) (fun _ s'=>SP X pins D .next s') acc C) hin hc hg hgo hcn he I2 T st2 f2 hcl hfr w0 turn ?_;intro DD C s' H' ys m I' hD fin hn c1 c2 c3 c4 c5 c6;show wpAny _ _ (assign (.Name x pos') X.env (.ref DD)) _ _ _;refine wpAny_assign_Name (Nk (v:=.ref DD) I' hN hix hx rfl (fun s'' I'' ⟨a,sb,ha⟩=>?_) hf);have ne:C≠a:=by
    rcases ha with z | z
    · rw [z];exact c1
    · exact (c3 x a z).symm
  refine ⟨m,hn.sameBut sb ne,fun h' sb'=>⟨_,_,I''.turned (t':=s''.toks) (it:=C) (fun b o hb e=>(sb'.2 b hb).trans e) ?_ c1 (.inr c2) c3 c4,fin DD hD⟩⟩;rw [BL (Ne.symm c6)];exact c5
end
end L2
namespace Q
open PySem L2
def DO (js:List Nat) (tg:Tg) (c:Ev Bool) (f:Ev Dt):List Dt->M->Option (List Dt×M)
 | [],m=>some ([],m)
 | d::ds,m=>do
  let m1 <- tg d (m.blank js)
  let (b,m2) <- c m1
  if b=true then do
   let (x,m3) <- f m2
   let (xs,m4) <- DO js tg c f ds m3
   some (x::xs,m4)
  else DO js tg c f ds m2
def Cw (src:Ev (List Dt)) (js:List Nat) (tg:Tg) (c:Ev Bool) (f:Ev Dt) (m:M):Option (Dt×M):=do
 let (ds,m1) <- src m
 if ds.length<=1000000 then do
  let (xs,m2) <- DO js tg c f ds m1
  some (.lst true xs,{ m2 with ρ:=rst js m1.ρ m2.ρ })
 else none
theorem OQ {K:W.Frag} {src:Ev (List Dt)} {js:List Nat} {g:TG} {ft:Tg} {c:Ev Bool} {f:Ev Dt} (ht:VB K js g ft) {σ:St} {H:Hp} {Q:VK} (h:tq K (Cw src js ft c f) σ H Q):SY (pT K src) js g (VL K c) (tq K f) σ H Q:=by
 obtain ⟨g0,m,P,r,d,m',e,k⟩:=h;simp only [Cw,Option.bind_eq_bind,Option.bind_eq_some_iff,Prod.exists] at e;obtain ⟨ds,m1,e1,e⟩:=e;split at e
 ·rename_i hz;simp only [Option.bind_eq_some_iff,Prod.exists,Option.some.injEq,Prod.mk.injEq] at e;obtain ⟨xs,m2,e2,rfl,rfl⟩:=e;refine ⟨g0,m,P,r,ds,m1,e1,fun g1 P1 Ph H1 J s r1 n yl=>?_⟩;obtain ⟨P1',r1',sp1⟩:=r1.blankTo js (σ:=σ) rfl fun _ _=>rfl
  refine ⟨fun i j ys H=>j=ds.length - i/\i<=ds.length/\ys.length<=i/\∃ g2 m3 P2 Py ya yb,xs=ya++yb/\Step g1 P1 H1 g2 (fun a=>P2 a\/Py a) H/\Rel K g2 H (m3.blank js) (L2.blank js σ) P2/\AG K g2 H ya ys Py/\Bj P2 Py/\DO js ft c f (ds.drop i) m3=some (yb,m2),
   ⟨ds.length,by simp,Nat.zero_le _,Nat.zero_le _,g1,m1,P1',BS,[],xs,rfl,Step.refl.sub (fun _ q=>q) fun a q=>q.elim (sp1 a) False.elim,r1',AG.nil,fun _ _ z=>z,by simpa using e2⟩,?_⟩
  rintro i j ys H2 ⟨rfl,hi,hyl,g2,m3,P2,Py,ya,yb,exs,s2,r2,ry,n2,e3⟩;have st:HB g1 H1 Ph g2 H2:=⟨P1,_,s2,r1.fpOk,fun a q z=>n a z q⟩
  by_cases hlt:i < ds.length
  ·rw [List.drop_eq_getElem_cons hlt] at e3;simp only [DO,Option.bind_eq_bind,Option.bind_eq_some_iff,Prod.exists] at e3;obtain ⟨m4,e4,b,m4',e4',e5⟩:=e3;obtain ⟨go,yy⟩:=(yl g2 H2 st).1 i ds[i] (List.getElem?_eq_getElem hlt);refine .inr ⟨go,Nat.lt_of_le_of_lt hyl (Nat.lt_of_lt_of_le hlt (Nat.le_trans hz (by decide))),fun zs H'=>zs.length<=i+1/\∃ g5 m7 P5 Pz za zb,xs=za++zb/\Step g1 P1 H1 g5 (fun a=>P5 a\/Pz a) H'/\Rel K g5 H' (m7.blank js) (L2.blank js σ) P5/\AG K g5 H' za zs Pz/\Bj P5 Pz/\DO js ft c f (ds.drop (i+1)) m7=some (zb,m2),?_,fun y H3 hy=>?_⟩
   ·rintro zs H' ⟨hl,h5⟩;exact ⟨ds.length - (i+1),by omega,rfl,hlt,hl,h5⟩
   ·obtain ⟨Pv,s3,h3,r3,n3⟩:=CO.go (g0:=g2) (P0:=P2) (H0:=H2) (Px:=BS) (Step.refl.sub (fun _ q=>q) fun _ q=>q.elim id False.elim) r2 (yy y H3 hy);refine ht g2 (m3.blank js) m4 P2 ds[i] Pv y _ H3 _ r3 h3 n3 e4 fun P' σ' sp ip r'=>?_
    have s23:Step g2 P2 H2 g2 P' H3:=s3.sub (fun _ q=>q) sp;refine ⟨g2,m4,P',r',b,m4',e4',fun g4 P4 H4 s4 r4=>?_⟩;have s24:=s23.trans s4;have fy:=ry.fpOk;cases b with
    | false =>
     simp only [Bool.false_eq_true,if_false] at e5 ⊢;have ry4:=ry.held s24 r2.fpOk fun a q z=>n2 a z q
     have dn:∀ a,Py a->¬ P4 a:=fun a q z=>by
      rcases s24.nw a z with z | z
      ·exact n2 a z q
      ·have:=(fy a q).1;rw [z] at this;exact this
     obtain ⟨P6,r6,sp6⟩:=r4.blankTo js (σ:=σ) (by rw [ip.1,L2.blank_length]) fun l hl=>by rw [ip.2 l hl,GM js σ l hl]
     refine ⟨by omega,g4,m4',P6,Py,ya,yb,exs,?_,r6,ry4,fun a q z=>dn a z (sp6 a q),e5⟩;refine (s2.trans (s24.frame (R:=Py))).sub (fun _ q=>q) fun a q=>?_
     exact q.elim (fun q=>.inl (sp6 a q)) .inr
    | true =>
     simp only [if_true,Option.bind_eq_some_iff,Prod.exists,Option.some.injEq,Prod.mk.injEq] at e5 ⊢;obtain ⟨x,m5,e5,xs',m6,e6,exx,rfl⟩:=e5;refine ⟨g4,m4',P4,r4,x,m5,e5,fun g5 P5 Pw v H5 s5 rv r5 n5=>?_⟩;have s25:=s24.trans s5;have ry5:=ry.held s25 r2.fpOk fun a q z=>n2 a z q
     have dn:∀ a,Py a->¬ (P5 a\/Pw a):=fun a q z=>by
      rcases s25.nw a z with z | z
      ·exact n2 a z q
      ·have:=(fy a q).1;rw [z] at this;exact this
     obtain ⟨P6,r6,sp6⟩:=r5.blankTo js (σ:=σ) (by rw [ip.1,L2.blank_length]) fun l hl=>by rw [ip.2 l hl,GM js σ l hl]
     refine ⟨by rw [List.length_append,List.length_singleton];omega,g5,m5,P6,fun a=>Py a\/Pw a,ya++[x],xs',by rw [exs,<- exx,List.append_assoc];rfl,?_,r6,?_,fun a q z=>z.elim (fun z=>dn a z (.inl (sp6 a q))) fun z=>n5 a (sp6 a q) z,e6⟩
     ·refine (s2.trans (s25.frame (R:=Py))).sub (fun _ q=>q) fun a q=>?_
      exact q.elim (fun q=>.inl (.inl (sp6 a q))) fun q=>q.elim .inr fun q=>.inl (.inr q)
     ·refine (AG.app ry5 (AG.cons rv AG.nil fun _ _ z=>z) fun a q z=>z.elim (fun z=>dn a q (.inr z)) id).iff fun a=>?_
      exact ⟨fun z=>z.elim .inl fun z=>.inr (.inl z),fun z=>z.elim .inl fun z=>z.elim .inr False.elim⟩
  ·have ei:i=ds.length:=by omega
   subst ei;rw [List.drop_length] at e3;simp only [DO,Option.some.injEq,Prod.mk.injEq] at e3;obtain ⟨ex,rfl⟩:=e3;subst ex;rw [List.append_nil] at exs;subst exs;refine .inl ⟨(yl g2 H2 st).2 _ (Nat.le_refl _),fun p hp=>?_⟩;have sm:=HU hp (.lst ys);have sn:=Step.same (g:=g2) (P:=BS) sm;have ry2:=ry.held sn (fun _ z=>z.elim) fun _ _ z=>z
   have np:∀ {R:Fp},FpOk g2 H2 R->¬ R p:=fun ok z=>by have:=(ok p z).1;rw [hp] at this;exact this
   obtain ⟨zd,Pa,Pb,h1,h2,h3,h4⟩:=r2.held sn (fun _ z=>z.elim) fun _ _ z=>z
   have h1':AX K g2 _ (DP js m3.ρ) σ Pa:=h1.agree (by rw [L2.blank_length]) fun l d el=>(GM js σ l (Mt js _ l d el)).symm
   obtain ⟨Pc,h5,sc⟩:=h1'.rst (ρ0:=m1.ρ) js fun l d el cd=>by
    obtain ⟨v,Pl,ev,rl,_⟩:=r1.see el;exact ⟨v,ev,((rl.cp cd).held s2 r1.fpOk fun _ z=>z.elim).held sn (fun _ z=>z.elim) fun _ z=>z.elim⟩
   refine k g2 (fun a=>Pc a\/Pb a) (fun b=>b=p\/Py b) (.ref p) _ ?_ ?_ ⟨zd,Pc,Pb,h5,h2,fun a q z=>h3 a (sc a q) z,fun _=>Iff.rfl⟩ fun a q z=>?_
   ·have sall:=(s.sub (Q':=P1) (fun _ q=>q) fun _ q=>.inl q).trans s2;refine sall.trans ⟨fun b o h _=>sm b o h,sn.dom,fun _ h=>h,fun _ h=>.inl h,⟨[],by simp⟩,fun a h=>?_,sn.zd⟩;rcases h with h | h | h
    ·exact .inl (.inl ((h4 a).mpr (h.elim (fun h=>.inl (sc a h)) .inr)))
    ·exact .inr (h▸hp)
    ·exact .inl (.inr h)
   ·unfold Rep;exact ⟨p,ys,Py,rfl,⟨Cy,fun z=>r2.zd p z hp⟩,ry2,np ry.fpOk,fun z=>by (cases z),fun b=>⟨fun z=>z.elim (fun z=>.inl ⟨rfl,z⟩) .inr,fun z=>z.elim (fun z=>.inl z.2) .inr⟩⟩
   ·have q2:P2 a:=(h4 a).mpr (q.elim (fun q=>.inl (sc a q)) .inr);rcases z with z | z
    ·exact np r2.fpOk (z▸q2)
    ·exact n2 a q2 z
 ·cases e
section
variable {X:Cx} {tg iter elt cnd:Expr} {ifs:List Expr} {scope:Scope} {pos:Pos} {g:TG} {ft:Tg} {c:Ev Bool} {f:Ev Dt} {js:List Nat} {src:Ev (List Dt)}
theorem Xw:gP X [] (VL X.K fun m=>some (true,m)):=fun pins s σ H Q I h=>by
 obtain ⟨g,m,P,r,b,m',e,k⟩:=h;cases e;exact wpAny_tests_nil ⟨H,I,k g P H Step.refl r⟩
theorem Uj:∀ (ds:List Dt) (m:M),Me js ft f ds m=DO js ft (fun m=>some (true,m)) f ds m
 | [],_=>rfl
 | d::ds,m=>by simp only [Me,DO,Uj ds,Option.bind_eq_bind,Option.bind_some,if_true]
theorem Rh:BO src js ft f=Cw src js ft (fun m=>some (true,m)) f:=by
 funext m;simp only [BO,Cw,Uj]
theorem Tz (hin:innerOk X.N X.env.scope scope js=true) (hc:X.calm=true) (hi:QI X tg iter src) (hg:∀ cl C s H fp,PG (X.inner scope cl C s H fp) tg g) (hgo:ai js g) (ht:VB X.K js g ft) (hcn:∀ cl C s H fp,gP (X.inner scope cl C s H fp) ifs (VL X.K c)) (he:∀ cl C s H fp,QE (X.inner scope cl C s H fp) elt f)
    (hs:∀ x,foldedSetIterable iter X.env x=pure x):QE X (.ListComp elt [⟨tg,iter,ifs,0⟩] scope pos) (Cw src js ft c f):=⟨PE.imp (Xs hin hc hi.h hg hgo hcn (fun cl C s H fp=>(he cl C s H fp).h) hs) fun _ _ _ h=>OQ ht h⟩
theorem Qv {io:List Nat} {i:Nat} {x:Str} {pos' spos:Pos} (hN:X.N.Nodup) (hix:X.N[i]?=some x) (hx:Loc X.env.scope x) (hio:i∉io)
    (hin:innerOk X.N X.env.scope scope js=true) (hc:X.calm=true) (hi:QI X tg iter src) (hg:∀ cl C s H fp,PG (X.inner scope cl C s H fp) tg g) (hgo:ai js g) (ht:VB X.K js g ft) (hcn:∀ cl C s H fp,gP (X.inner scope cl C s H fp) ifs (VL X.K c)) (he:∀ cl C s H fp,QE (X.inner scope cl C s H fp) elt f)
    (hsw:swapsWith (.ListComp elt [⟨tg,iter,ifs,0⟩] scope pos) (some (.Name x pos')) spos.line X.env=pure true)
    (hs:∀ x,foldedSetIterable iter X.env x=pure x)
    (hf:X.fn x=true\/X.env.scope.names.lookup x=some .local):QS X io (.Assign [.Name x pos'] (.ListComp elt [⟨tg,iter,ifs,0⟩] scope pos) spos) (Ad (Cw src js ft c f) (Aj i)):=⟨PS.imp (Xj hN hix hx hin hc hi.h hg hgo hcn (fun cl C s H fp=>(he cl C s H fp).h) hsw hs hf) fun D σ H h=>OQ (Q:=fun x H1=>MP i x σ H1 D.nx) ht (QU (K:=X.K) AI (fun j hj z=>hio (by rw [<- List.mem_singleton.mp z];exact hj)) h)⟩
theorem bZ (hin:innerOk X.N X.env.scope scope js=true) (hc:X.calm=true) (hi:QI X tg iter src) (hg:∀ cl C s H fp,PG (X.inner scope cl C s H fp) tg g) (hgo:ai js g) (ht:VB X.K js g ft) (hcn:∀ cl C s H fp,QT (X.inner scope cl C s H fp) cnd c) (he:∀ cl C s H fp,QE (X.inner scope cl C s H fp) elt f)
    (hs:∀ x,foldedSetIterable iter X.env x=pure x:=by intro _;rfl):QE X (.ListComp elt [⟨tg,iter,[cnd],0⟩] scope pos) (Cw src js ft c f):=Tz hin hc hi hg hgo ht (fun cl C s H fp=>.one (hcn cl C s H fp).h) he hs
theorem Xc {io:List Nat} {i:Nat} {x:Str} {pos' spos:Pos} (hN:X.N.Nodup) (hix:X.N[i]?=some x) (hx:Loc X.env.scope x) (hio:i∉io)
    (hin:innerOk X.N X.env.scope scope js=true) (hc:X.calm=true) (hi:QI X tg iter src) (hg:∀ cl C s H fp,PG (X.inner scope cl C s H fp) tg g) (hgo:ai js g) (ht:VB X.K js g ft) (hcn:∀ cl C s H fp,QT (X.inner scope cl C s H fp) cnd c) (he:∀ cl C s H fp,QE (X.inner scope cl C s H fp) elt f)
    (hsw:swapsWith (.ListComp elt [⟨tg,iter,[cnd],0⟩] scope pos) (some (.Name x pos')) spos.line X.env=pure true:=by rfl)
    (hs:∀ x,foldedSetIterable iter X.env x=pure x:=by intro _;rfl)
    (hf:X.fn x=true\/X.env.scope.names.lookup x=some .local:=by first | exact .inl rfl | exact .inr rfl | assumption):QS X io (.Assign [.Name x pos'] (.ListComp elt [⟨tg,iter,[cnd],0⟩] scope pos) spos) (Ad (Cw src js ft c f) (Aj i)):=Qv hN hix hx hio hin hc hi hg hgo ht (fun cl C s H fp=>.one (hcn cl C s H fp).h) he hsw hs hf
theorem CU (hin:innerOk X.N X.env.scope scope js=true) (hc:X.calm=true) (hi:QI X tg iter src) (hg:∀ cl C s H fp,PG (X.inner scope cl C s H fp) tg g) (hgo:ai js g) (ht:VB X.K js g ft) (he:∀ cl C s H fp,QE (X.inner scope cl C s H fp) elt f)
    (hs:∀ x,foldedSetIterable iter X.env x=pure x:=by intro _;rfl):QE X (.ListComp elt [⟨tg,iter,[],0⟩] scope pos) (BO src js ft f):=Rh▸Tz hin hc hi hg hgo ht (fun _ _ _ _ _=>Xw) he hs
theorem Ky {io:List Nat} {i:Nat} {x:Str} {pos' spos:Pos} (hN:X.N.Nodup) (hix:X.N[i]?=some x) (hx:Loc X.env.scope x) (hio:i∉io)
    (hin:innerOk X.N X.env.scope scope js=true) (hc:X.calm=true) (hi:QI X tg iter src) (hg:∀ cl C s H fp,PG (X.inner scope cl C s H fp) tg g) (hgo:ai js g) (ht:VB X.K js g ft) (he:∀ cl C s H fp,QE (X.inner scope cl C s H fp) elt f)
    (hsw:swapsWith (.ListComp elt [⟨tg,iter,[],0⟩] scope pos) (some (.Name x pos')) spos.line X.env=pure true:=by rfl)
    (hs:∀ x,foldedSetIterable iter X.env x=pure x:=by intro _;rfl)
    (hf:X.fn x=true\/X.env.scope.names.lookup x=some .local:=by first | exact .inl rfl | exact .inr rfl | assumption):QS X io (.Assign [.Name x pos'] (.ListComp elt [⟨tg,iter,[],0⟩] scope pos) spos) (Ad (BO src js ft f) (Aj i)):=Rh▸Qv hN hix hx hio hin hc hi hg hgo ht (fun _ _ _ _ _=>Xw) he hsw hs hf
end
noncomputable def FF (k:Nat):List Dt->List Dt
 | []=>[]
 | d::ds=>.tup [.int k,d]::FF (k+1) ds
theorem OO:∀ (ds:List Dt) (k i:Nat) (e:Dt),(FF k ds)[i]?=some e->∃ d,ds[i]?=some d/\e=.tup [.int ((k+i:Nat):Int),d]
 | [],k,i,e,h=>by simp [FF] at h
 | d::ds,k,0,e,h=>by
  simp [FF] at h;exact ⟨d,rfl,by simp [<- h]⟩
 | d::ds,k,i+1,e,h=>by
  obtain ⟨d',h1,h2⟩:=OO ds (k+1) i e (by simpa [FF] using h);exact ⟨d',by simpa using h1,by rw [h2,Nat.add_assoc,Nat.add_comm 1 i]⟩
theorem ON:∀ (ds:List Dt) (k:Nat),(FF k ds).length=ds.length
 | [],k=>rfl
 | d::ds,k=>by simp [FF,ON ds (k+1)]
def pG (f:Ev Dt) (m:M):Option (List Dt×M):=do
 let (d,m1) <- f m
 match d with
 | .lst _ ds=>bif cps ds then some (FF 0 ds,m1) else none
 | _=>none
section
end
section
end
def qH (f:Ev Dt) (m:M):Option (Dt×M):=do
 let (d,m1) <- f m
 match d with
 | .str l=>if l.length<=1000000 then some (.str l,m1) else none
 | .int i=>if i.natAbs < 2 ^ 64 then some (.str (Zb i),m1) else none
 | _=>none
def qG:List (Ev Dt)->List Nat->M->Option (Dt×M)
 | [],acc,m=>if acc.length<=1000000 then some (.str acc,m) else none
 | f::fs,acc,m=>do
  let (d,m1) <- f m
  match d with
  | .str z=>if acc.length+z.length<=1000000 then qG fs (acc++z) m1 else none
  | _=>none
section
end
section
variable {K:W.Frag} {g:G} {H:Hp} {σ:St}
theorem Rel.none1 {m:M} {P:Fp} (i:Nat) (h:Rel K g H m σ P):∃ P2,Rel K g H (m.set i none) σ P2/\∀ a,P2 a->P a:=by
 by_cases hi:i < σ.length
 ·obtain ⟨P2,r,s⟩:=h.store i σ[i];rw [List.set_getElem_self] at r;exact ⟨P2,r,s⟩
 ·obtain ⟨P2,r,s⟩:=h.store i none;rw [List.set_eq_of_length_le (by omega)] at r;exact ⟨P2,r,s⟩
theorem Rel.blank:∀ (js:List Nat) {m:M} {P:Fp},Rel K g H m σ P->∃ P2,Rel K g H (m.blank js) σ P2/\∀ a,P2 a->P a
 | [],m,P,h=>⟨P,h,fun _ q=>q⟩
 | j::js,m,P,h=>by
  obtain ⟨P1,h1,s1⟩:=h.none1 j;obtain ⟨P2,h2,s2⟩:=Rel.blank js h1;exact ⟨P2,h2,fun a q=>s1 a (s2 a q)⟩
end
theorem Gp.blank {K:W.Frag} {io:List Nat} {g:G} {P:Fp} {H:Hp} {σ:St} {D:Ends} {js:List Nat} {m:M}:∀ {fl:Fl},Gp K io g P H σ D (m.blank js) fl->Gp K io g P H σ D m fl
 | .nx,h=>fun g' P' σ' H' s i r=>let ⟨P2,r2,s2⟩:=r.blank js;h g' P2 σ' H' (s.sub (fun _ q=>q) s2) i r2
 | .ct,h=>fun g' P' σ' H' s i r=>let ⟨P2,r2,s2⟩:=r.blank js;h g' P2 σ' H' (s.sub (fun _ q=>q) s2) i r2
 | .bk,h=>fun g' P' σ' H' s i r=>let ⟨P2,r2,s2⟩:=r.blank js;h g' P2 σ' H' (s.sub (fun _ q=>q) s2) i r2
 | .rt d,h=>fun g' P' Pv σ' v H' s i rv r n=>let ⟨P2,r2,s2⟩:=r.blank js;h g' P2 Pv σ' v H' (s.sub (fun _ q=>q) fun a q=>q.elim (fun q=>.inl (s2 a q)) .inr) i rv r2 fun a q z=>n a (s2 a q) z
def Ae {α:Type} (js:List Nat) (f:M->Option (α×M)) (m:M):Option (α×M):=(f m).map fun p=>(p.1,p.2.blank js)
section
variable {X:Cx} {io js:List Nat} {f:Es}
theorem Wt {K:W.Frag} {D:Ends} {σ:St} {H:Hp} (h:gg K io (Ae js f) D σ H):gg K io f D σ H:=by
 obtain ⟨g,m,P,r,fl,m',e,k⟩:=h;simp only [Ae,Option.map_eq_some_iff,Prod.mk.injEq,Prod.exists] at e;obtain ⟨fl',m1,e1,rfl,rfl⟩:=e;exact ⟨g,m,P,r,fl',m1,e1,k.blank⟩
theorem Au (js:List Nat) {s:Stmt} (h:QS X io s f):QS X io s (Ae js f):=⟨PS.imp h.h fun _ _ _=>Wt⟩
theorem Bw (js:List Nat) {s:List Stmt} (h:QSs X io s f):QSs X io s (Ae js f):=⟨OX.imp h.h fun _ _ _=>Wt⟩
theorem DU (js:List Nat) {tg iter:Expr} {src:Ev (List Dt)} (h:QI X tg iter src):QI X tg iter (Ae js src):=⟨PI.imp h.h fun σ H R q=>by
 obtain ⟨g,m,P,r,ds,m',e,k⟩:=q;simp only [Ae,Option.map_eq_some_iff,Prod.mk.injEq,Prod.exists] at e;obtain ⟨ds',m1,e1,rfl,rfl⟩:=e;refine ⟨g,m,P,r,ds',m1,e1,fun g' P' Ph H' J s r1 n yl=>?_⟩;obtain ⟨P2,r2,s2⟩:=r1.blank js;exact k g' P2 Ph H' J (s.sub (fun _ q=>q) fun a q=>q.elim (fun q=>.inl (s2 a q)) .inr) r2 (fun a q z=>n a (s2 a q) z) yl⟩
theorem Rel.frz {K:W.Frag} {g:G} {H:Hp} {σ:St} {m:M} {P:Fp} {i:Nat} {d:Dt} (r:Rel K g H m σ P) (e:m.ρ[i]?=some (some d)) :
    ∃ g2 P2,Rel K g2 H (m.set i (some d.fz)) σ P2/\Step g P H g2 P2 H:=by
  obtain ⟨v,P1,P2,e1,k1,k2,k3,k4⟩:=r.take e;have fr:Rep _ (g.add P1) H d.fz v BS:=k1.freeze (fun _ q=>q) fun a q=>(k1.fpOk a q).1
  have st:Step g P1 H (g.add P1) BS H:=Step.freeze k1.fpOk;have r2:=k2.held st k1.fpOk fun a q z=>k3 a z q
  have hi:i < m.ρ.length:=(List.getElem?_eq_some_iff.mp e).1;have r3:=r2.put (i:=i) (d:=d.fz) (by show (m.ρ.set i none)[i]?=_;rw [List.getElem?_set_self hi]) e1 fr fun _ z=>z.elim
  have em:(m.set i none).set i (some d.fz)=m.set i (some d.fz):=by unfold M.set;simp
  rw [em] at r3;refine ⟨g.add P1,_,r3,?_⟩;refine (st.frame (R:=P2)).sub (fun a q=>(k4 a).mpr q) fun a q=>?_
  exact q.elim (fun z=>z.elim) .inr
noncomputable def mV (i:Nat) (m:M):Option M:=((m.ρ[i]?).join).map fun d=>m.set i (some d.fz)
def OM (i:Nat) (f:Es) (m:M):Option (Fl×M):=match f m with
 | some (.nx,m1)=>(mV i m1).map fun m2=>(.nx,m2)
 | _=>none
theorem Xd {i:Nat} {s:Stmt} (h:QS X io s f):QS X io s (OM i f):=⟨PS.imp h.h fun D σ H q=>by
 obtain ⟨g,m,P,r,fl,m',e,k⟩:=q;unfold OM at e;split at e
 ·rename_i m1 e1;simp only [mV,Option.map_eq_some_iff,Prod.mk.injEq] at e;obtain ⟨m2,⟨d,e2,rfl⟩,rfl,rfl⟩:=e;refine ⟨g,m,P,r,.nx,m1,e1,fun g' P' σ' H' s i' r'=>?_⟩;obtain ⟨g2,P2,r2,s2⟩:=r'.frz (CJ e2);exact k g2 P2 σ' H' (s.trans s2) i' r2
 ·cases e⟩
def Zf (js:List Nat) (f:Es) (m:M):Option (Fl×M):=f (m.blank js)
theorem gy (js:List Nat) {s:Stmt} (h:QS X io s f):QS X io s (Zf js f):=⟨PS.imp h.h fun D σ H q=>by
 obtain ⟨g,m,P,r,fl,m',e,k⟩:=q;obtain ⟨P2,r2,s2⟩:=r.blank js;exact ⟨g,m.blank js,P2,r2,fl,m',e,k.later ((Step.refl (P:=P)).sub (fun _ q=>q) s2) Io.refl⟩⟩
noncomputable def nO (m:M):Option (Fl×M):=some (.bk,m)
end
inductive Dv where
 | non | bl (b:Bool) | int (i:Int) | str (x:List Nat) | tup (xs:List Dv) | lst (xs:List Dv) | scr (ns:List Int) | ty (n:String) | mtp (ls:List (List Nat)) | dti (kvs:List (List Int×Int))
 deriving Inhabited
mutual
noncomputable def mk (o:Bool):Dv->Dt
 | .non=>.non
 | .bl b=>.bl b
 | .int i=>.int i
 | .str x=>.str x
 | .tup xs=>.tup (Ar xs)
 | .lst xs=>.lst o (Ar xs)
 | .scr ns=>.scr ns
 | .ty n=>.ty n
 | .mtp ls=>.mtp ls
 | .dti ls=>.dti o ls
noncomputable def Ar:List Dv->List Dt
 | []=>[]
 | d::ds=>mk false d::Ar ds
end
theorem Cu:∀ (ds:List Dv),Ar ds=ds.map (mk false)
 | []=>by simp only [Ar,List.map_nil]
 | d::ds=>by simp only [Ar,List.map_cons];rw [Cu ds]
@[simp] theorem Hz (ds:List Dv):(Ar ds).length=ds.length:=by rw [Cu,List.length_map]
theorem LD (xs ys:List Dv):Ar (xs++ys)=Ar xs++Ar ys:=by simp only [Cu,List.map_append]
mutual
theorem RN:∀ (d:Dv),(mk false d).cp=true
 | .non | .bl _ | .int _ | .str _ | .scr _ | .ty _ | .mtp _ | .dti _=>by simp only [mk];rfl
 | .tup xs=>by simp only [mk,ja];exact Ds xs
 | .lst xs=>by simp only [mk,Zp,Bool.not_false,Bool.true_and];exact Ds xs
theorem Ds:∀ (ds:List Dv),cps (Ar ds)=true
 | []=>by simp only [Ar];rfl
 | d::ds=>by simp only [Ar,Ru,RN d,Ds ds,Bool.and_self]
end
theorem eX:∀ (o:Bool) (d:Dv),(mk o d).fz=mk false d
 | _,.non | _,.bl _ | _,.int _ | _,.str _ | _,.scr _ | _,.ty _ | _,.mtp _ | _,.dti _=>by simp only [mk,Dt.fz]
 | o,.tup xs=>by simp only [mk,Dt.fz];rw [MQ _ (Ds xs)]
 | o,.lst xs=>by simp only [mk,Dt.fz];rw [MQ _ (Ds xs)]
noncomputable def kB {α β:Type} (r:Option (α×M)) (k:α->M->Option β):Option β:=r.bind fun p=>k p.1 p.2
section
variable {α β γ:Type}
theorem AK (a:α) (m:M) (k:α->M->Option β):kB (some (a,m)) k=k a m:=rfl
theorem JZ (k:α->M->Option β):kB none k=none:=rfl
theorem Ax (r:Option (α×M)) (k:α->M->Option (β×M)) (k2:β->M->Option γ):kB (kB r k) k2=kB r fun a m=>kB (k a m) k2:=by cases r<;>rfl
theorem Aq (x:Option α) (f:α->Option (β×M)) (k:β->M->Option γ):kB (x.bind f) k=x.bind fun a=>kB (f a) k:=by cases x<;>rfl
theorem EW (c:Prop) [Decidable c] (x y:Option (α×M)) (k:α->M->Option β):kB (if c then x else y) k=if c then kB x k else kB y k:=by split<;>rfl
theorem ZS {δ:Type} (x:Option δ) (f:δ->α×M) (k:α->M->Option β):kB (x.map f) k=x.bind fun a=>k (f a).1 (f a).2:=by cases x<;>rfl
theorem Mv {δ:Type} (x:Option δ) (f:δ->α) (k:α->Option β):(x.map f).bind k=x.bind fun a=>k (f a):=by cases x<;>rfl
theorem Ux (a:α) (k:α->Option β):(some a).bind k=k a:=rfl
end
@[simp] theorem ix (xs:List Dv) (i:Int):Gy (Ar xs) i=(Gy xs i).map (mk false):=by rw [Cu,aS]
theorem cQ (xs:List Dv) (lo hi:Option Int):Dj (Ar xs) lo hi=Ar (Dj xs lo hi):=by simp only [Dj,Cu,List.map_take,List.map_drop,List.length_map]
noncomputable def Gz (C:Int->Int->Bool) (f:Int->Int->Int) (x y:Dv):Option Dv:=match x,y with | .int i,.int j=>if C i j=true then some (.int (f i j)) else none | _,_=>none
abbrev SE:=Gz (fun _ _=>true) fun i j=>i - j
abbrev GN:=Gz (fun _ j=>decide (0 < j)) fun i j=>i % j
abbrev dG:=Gz (fun _ j=>decide (0 < j) && decide (j < 1073741824)) fun i j=>i / j
abbrev mm:=Gz (fun i j=>decide (0<=j) && decide (j<=1000000) && decide (i.natAbs < 2 ^ 64)) fun i j=>i ^ j.toNat
theorem UR (C:Int->Int->Bool) (f:Int->Int->Int) (a b:Bool) (x y:Dv):IS C f [mk a x,mk b y]=(Gz C f x y).map (mk true):=by
 cases x<;>cases y<;>(first | rfl | simp only [mk,IS.eq_def,Gz.eq_def]);rename_i i j;cases C i j<;>simp [mk]
noncomputable def QX (x:Dv):Option Dv:=match x with | .int i=>some (.int (-i)) | _=>none
theorem YY (a:Bool) (x:Dv):Qy [mk a x]=(QX x).map (mk true):=by cases x<;>(first | rfl | simp only [mk,Qy.eq_def,QX.eq_def,Option.map_none,Option.map_some])
noncomputable def Bm (x y:Dv):Option Dv:=match x,y with
 | .int i,.int j=>some (.int (i+j))
 | .str a,.str b=>if a.length+b.length<=1000000 then some (.str (a++b)) else none
 | .lst xs,.lst ys=>if xs.length+ys.length<=1000000 then some (.lst (xs++ys)) else none
 | .tup xs,.tup ys=>if xs.length+ys.length<=1000000 then some (.tup (xs++ys)) else none
 | _,_=>none
theorem Yf (a b:Bool) (x y:Dv):DV [mk a x,mk b y]=(Bm x y).map (mk true):=by
 cases x<;>cases y<;>(first | rfl | simp only [mk,DV.eq_def,Bm.eq_def,Hz,Ds,Bool.and_self,cond_true])<;>split<;>simp [mk,LD]
def Fj (x y:Dv):Option Dv:=match x,y with
 | .int i,.int j=>if (big i || big j)=true then some (.int (i * j)) else none
 | .lst xs,.int k=>if xs.length * k.toNat<=1000000/\k < 1000000/\-1000000 < k then some (.lst (List.replicate k.toNat xs).flatten) else none
 | _,_=>none
theorem PQ (xs:List Dv):∀ k:Nat,(List.replicate k (Ar xs)).flatten=Ar (List.replicate k xs).flatten
 | 0=>by simp [Ar]
 | k+1=>by simp only [List.replicate_succ,List.flatten_cons,LD,PQ xs k]
theorem YZ (a b:Bool) (x y:Dv):JU [mk a x,mk b y]=(Fj x y).map (mk true):=by
 cases x<;>cases y<;>(first | rfl | simp only [mk,JU.eq_def,Fj.eq_def,Hz,Ds,cond_true,PQ])
 ·rename_i i j;cases (big i || big j)<;>simp [mk]
 ·split<;>simp [mk]
noncomputable def Dx (x:Dv):Option Dv:=match x with
 | .str l=>if l.length<=1000000 then some (.int l.length) else none
 | .lst xs=>some (.int xs.length)
 | .tup xs=>some (.int xs.length)
 | .scr ns=>some (.int ns.length)
 | _=>none
theorem Ya (a:Bool) (x:Dv):HA [mk a x]=(Dx x).map (mk true):=by
 cases x<;>(first | rfl | simp only [mk,HA.eq_def,Dx.eq_def,Option.map_some,Hz]);split<;>simp [mk]
def AN (x y:Dv):Option Dv:=match x,y with
 | .lst xs,.int i=>Gy xs i
 | .tup xs,.int i=>Gy xs i
 | .scr ns,.int i=>(Gy ns i).map .int
 | .str l,.int i=>if l.length<=1000000 then (Gy l i).map fun c=>.str [c] else none
 | _,_=>none
theorem Yc (a b:Bool) (x y:Dv):Af [mk a x,mk b y]=(AN x y).map (mk false):=by
 cases x<;>cases y<;>(first | rfl | simp only [mk,Af.eq_def,AN.eq_def,ix])
 ·split<;>simp [Option.map_map,Function.comp_def,mk]
 ·rename_i xs i;cases Gy xs i<;>simp [kN.eq_def,RN]
 ·rename_i xs i;cases Gy xs i<;>simp [kN.eq_def,RN]
 ·simp [Option.map_map,Function.comp_def,mk]
def ab (lo hi:Option Int) (x:Dv):Option Dv:=match x with
 | .str l=>if l.length<=1000000 then some (.str (TQ l lo hi)) else none
 | .lst xs=>some (.lst (Dj xs lo hi))
 | .tup xs=>some (.tup (Dj xs lo hi))
 | .scr ns=>some (.lst ((Dj ns lo hi).map .int))
 | _=>none
theorem PR (ns:List Int):Ar (ns.map Dv.int)=ns.map Dt.int:=by rw [Cu,List.map_map];rfl
theorem cM (ns:List (List Nat)):Ar (ns.map Dv.str)=ns.map Dt.str:=by rw [Cu,List.map_map];rfl
theorem YW (lo hi:Option Int) (a:Bool) (x:Dv):Oo lo hi (mk a x)=(ab lo hi x).map (mk true):=by
 cases x<;>(first | rfl | simp only [mk,Oo.eq_def,ab.eq_def,Option.map_some,Ds,cond_true,cQ,PR]);split<;>simp [mk]
def Tb (x i:Dv):Option Dv:=match i with | .int i=>ab (some i) none x | _=>none
def NF (x i:Dv):Option Dv:=match i with | .int i=>ab none (some i) x | _=>none
def dF (x i j:Dv):Option Dv:=match i,j with | .int i,.int j=>ab (some i) (some j) x | _,_=>none
mutual
noncomputable def Dv.cmp:Dv->Bool
 | .non | .bl _ | .int _ | .str _=>true
 | .tup xs=>DX xs
 | .lst xs=>DX xs
 | _=>false
noncomputable def DX:List Dv->Bool
 | []=>true
 | d::ds=>d.cmp && DX ds
end
mutual
noncomputable def Dv.dep:Dv->Nat
 | .tup xs=>DW xs+1
 | .lst xs=>DW xs+1
 | _=>0
noncomputable def DW:List Dv->Nat
 | []=>0
 | d::ds=>max d.dep (DW ds)
end
mutual
noncomputable def eqV:Dv->Dv->Bool
 | .non,.non=>true
 | .bl a,.bl b=>a == b
 | .bl a,.int b=>(if a then 1 else 0) == b
 | .int a,.bl b=>a == (if b then 1 else 0)
 | .int a,.int b=>a == b
 | .str a,.str b=>a == b
 | .tup xs,.tup ys=>eqVs xs ys
 | .lst xs,.lst ys=>eqVs xs ys
 | _,_=>false
noncomputable def eqVs:List Dv->List Dv->Bool
 | [],[]=>true
 | x::xs,y::ys=>eqV x y && eqVs xs ys
 | _,_=>false
end
mutual
theorem PX (o:Bool):∀ d:Dv,(mk o d).cmp=d.cmp
 | .non | .bl _ | .int _ | .str _ | .scr _ | .ty _ | .mtp _ | .dti _=>by simp only [mk,Dt.cmp,Dv.cmp]
 | .tup xs=>by simp only [mk,Dt.cmp,Dv.cmp];exact JX xs
 | .lst xs=>by simp only [mk,Dt.cmp,Dv.cmp];exact JX xs
theorem JX:∀ ds:List Dv,Ek (Ar ds)=DX ds
 | []=>by simp only [Ar,Ek,DX]
 | d::ds=>by simp only [Ar,Ek,DX];rw [PX false d,JX ds]
end
mutual
theorem Yd (o:Bool):∀ d:Dv,(mk o d).dep=d.dep
 | .non | .bl _ | .int _ | .str _ | .scr _ | .ty _ | .mtp _ | .dti _=>by simp only [mk,Dt.dep,Dv.dep]
 | .tup xs=>by simp only [mk,Dt.dep,Dv.dep];rw [JW xs]
 | .lst xs=>by simp only [mk,Dt.dep,Dv.dep];rw [JW xs]
theorem JW:∀ ds:List Dv,JA (Ar ds)=DW ds
 | []=>by simp only [Ar,JA,DW]
 | d::ds=>by simp only [Ar,JA,DW];rw [Yd false d,JW ds]
end
mutual
theorem PV (o u:Bool):∀ d e:Dv,eqT (mk o d) (mk u e)=eqV d e
 | .non,e=>by cases e<;>rfl
 | .bl _,e=>by cases e<;>rfl
 | .int _,e=>by cases e<;>rfl
 | .str _,e=>by cases e<;>rfl
 | .scr _,e=>by cases e<;>rfl
 | .ty _,e=>by cases e<;>rfl
 | .mtp _,e=>by cases e<;>rfl
 | .dti _,e=>by cases e<;>rfl
 | .tup xs,e=>by cases e<;>first | rfl | exact PU xs _
 | .lst xs,e=>by cases e<;>first | rfl | exact PU xs _
theorem PU:∀ ds es:List Dv,Km (Ar ds) (Ar es)=eqVs ds es
 | [],es=>by cases es<;>(first | rfl | simp only [Ar,Km,eqVs])
 | d::ds,[]=>by simp only [Ar,Km,eqVs]
 | d::ds,e::es=>by simp only [Ar,Km,eqVs];rw [PV false false d e,PU ds es]
end
def jy (neg:Bool) (x y:Dv):Option Dv:=if (x.cmp && y.cmp && decide (x.dep<=150))=true then some (.bl (if neg then !eqV x y else eqV x y)) else none
theorem jB (neg a b:Bool) (x y:Dv):Sk neg [mk a x,mk b y]=(jy neg x y).map (mk true):=by
 simp only [Sk.eq_def,jy.eq_def,PX,Yd,PV];cases (x.cmp && y.cmp && decide (x.dep<=150))<;>simp [mk]
noncomputable def ax:Dv->Option (List Dv)
 | .lst xs=>some xs
 | .tup xs=>some xs
 | .mtp ls=>some (ls.map .str)
 | _=>none
theorem lq (o:Bool) (d:Dv):sq (mk o d)=(ax d).map Ar:=by cases d<;>(first | rfl | simp only [mk,sq.eq_def,ax.eq_def,Option.map_some,cM])
def MF (e:Dv) (ds:List Dv):Bool:=ds.any fun d=>eqV d e
theorem cN (o:Bool) (e:Dv) (ds:List Dv):PZ (mk o e) (Ar ds)=MF e ds:=by
 simp only [PZ,MF,Cu,List.any_map];congr 1;funext d;exact PV _ _ _ _
def jx (neg:Bool) (e s:Dv):Option Dv:=match e,s with
 | .str x,.str l=>some (.bl (if neg then !VO x l else VO x l))
 | e,s=>match ax s with
  | some xs=>if (e.cmp && DX xs && decide (DW xs<=150))=true then some (.bl (if neg then !MF e xs else MF e xs)) else none
  | none=>none
theorem jA (neg a b:Bool) (x y:Dv):Xz neg [mk a x,mk b y]=(jx neg x y).map (mk true):=by
 have gen:∀ (s:Dv),(match sq (mk b s) with | some xs=>bif (mk a x).cmp && Ek xs && decide (JA xs<=150) then some (Dt.bl (if neg then !PZ (mk a x) xs else PZ (mk a x) xs)) else none | none=>none)=(match ax s with | some xs=>if (x.cmp && DX xs && decide (DW xs<=150))=true then some (Dv.bl (if neg then !MF x xs else MF x xs)) else none | none=>none:Option Dv).map (mk true):=fun s=>by
  rw [lq];cases ax s with
  | none=>rfl
  | some xs =>
   simp only [Option.map_some,PX,JX,JW,cN];cases (x.cmp && DX xs && decide (DW xs<=150))<;>simp [mk]
 have g2:=gen y;cases x<;>cases y<;>first | exact g2 | rfl
noncomputable def Dv.isNon:Dv->Bool
 | .non=>true
 | _=>false
noncomputable def LV:List Dv->Option (List Bool)
 | []=>some []
 | .bl b::ds=>(LV ds).map (b::·)
 | _=>none
noncomputable def Nh:List Dv->Option (List Int)
 | []=>some []
 | .int b::ds=>(Nh ds).map (b::·)
 | _=>none
noncomputable def IL:List Dv->Option (List (List Nat))
 | []=>some []
 | .str b::ds=>(IL ds).map (b::·)
 | _=>none
theorem UJ:∀ ds:List Dv,dB (Ar ds)=LV ds
 | []=>by simp only [Ar,dB,LV]
 | d::ds=>by cases d<;>(first | rfl | simp only [Ar,mk,dB,LV]);rw [UJ ds]
theorem RH:∀ ds:List Dv,IM (Ar ds)=IL ds
 | []=>by simp only [Ar,IM,IL]
 | d::ds=>by cases d<;>(first | rfl | simp only [Ar,mk,IM,IL]);rw [RH ds]
@[simp] theorem VG (bs:List (List Nat)):IL (bs.map .str)=some bs:=by induction bs with | nil=>rfl | cons b bs ih=>simp [IL,ih]
def jz (x:Dv):Option Dv:=match x with | .lst xs=>(LV xs).map fun bs=>.bl (bs.all id) | _=>none
theorem jC (a:Bool) (x:Dv):PJ [mk a x]=(jz x).map (mk true):=by cases x<;>(first | rfl | simp only [mk,PJ.eq_def,jz.eq_def,UJ,Option.map_map,Function.comp_def])
def rF (x:Dv):Option Dv:=match x with
 | .lst xs=>(Nh xs).map fun ns=>.int ns.sum
 | .tup xs=>(Nh xs).map fun ns=>.int ns.sum
 | _=>none
def qT (x:Dv):Option Dv:=match x with
 | .lst xs=>match Nh xs with | some (n::ns)=>some (.int (nv (n::ns))) | _=>none
 | _=>none
noncomputable def qU (x y:Dv):Option Dv:=match x,y with | .int i,.int j=>some (.int (if j > i then j else i)) | _,_=>none
noncomputable def qS (x y:Dv):Option Dv:=match x,y with | .int i,.int j=>some (.int (if j < i then j else i)) | _,_=>none
noncomputable def qV (x:Dv):Option Dv:=match x with | .int i=>some (.int i) | .bl b=>some (.int (if b then 1 else 0)) | _=>none
def qM (x:Dv):Option Dv:=match x with | .int i=>if i.natAbs < 2 ^ 64 then some (.str (Zb i)) else none | _=>none
noncomputable def Av (x:Dv):Option Dv:=match x with | .lst xs=>some (.tup xs) | .tup xs=>some (.tup xs) | _=>none
theorem RJ (a:Bool) (x:Dv):Bp [mk a x]=(Av x).map (mk true):=by cases x<;>(first | rfl | simp only [mk,Bp.eq_def,Av.eq_def,Option.map_some,Ds,cond_true])
noncomputable def IZ (x:Dv):Option Dv:=match x with | .lst xs=>some (.lst xs) | .tup xs=>some (.lst xs) | .scr ns=>some (.lst (ns.map .int)) | _=>none
theorem UQ (a:Bool) (x:Dv):KS [mk a x]=(IZ x).map (mk true):=by cases x<;>(first | rfl | simp only [mk,KS.eq_def,IZ.eq_def,Option.map_some,Ds,cond_true,PR])
def Jm (x y:Dv):Option Dv:=match x,y with
 | .str sep,.lst xs=>match IL xs with
  | some ys=>if (ys.map List.length).sum+ys.length * sep.length<=1000000 then some (.str (jn sep ys)) else none
  | none=>none
 | _,_=>none
theorem cR (a b:Bool) (x y:Dv):MA [mk a x,mk b y]=(Jm x y).map (mk true):=by
 cases x<;>cases y<;>(first | rfl | simp only [mk,MA.eq_def,Jm.eq_def,RH]);rename_i xs;cases IL xs with
 | none=>rfl
 | some l=>simp only;split<;>simp [mk]
noncomputable def Hq (x:Dv):Option Dv:=match x with
 | .str l=>if (l.all (fun c=>decide (c < 128)) && decide (l.length<=1000000))=true then some (.str (l.map PyProof.Rows.up1)) else none
 | _=>none
theorem YR (a:Bool) (x:Dv):Ir [mk a x]=(Hq x).map (mk true):=by
 cases x<;>(first | rfl | simp only [mk,Ir.eq_def,Hq.eq_def]);rename_i l;cases (l.all (fun c=>decide (c < 128)) && decide (l.length<=1000000))<;>simp [mk]
def RZ (e:Dv):List Dv->Option Nat
 | []=>none
 | d::ds=>if eqV d e then some 0 else (RZ e ds).map (·+1)
theorem UI (o:Bool) (e:Dv):∀ ds:List Dv,Pn (mk o e) (Ar ds)=RZ e ds
 | []=>by simp only [Ar,Pn,RZ]
 | d::ds=>by simp only [Ar,Pn,RZ,PV];rw [UI o e ds]
def pN (x e:Dv):Option Dv:=match x with
 | .lst xs=>if (e.cmp && DX xs && decide (DW xs<=150))=true then (RZ e xs).map fun j=>.int (j:Nat) else none
 | _=>none
def FU (x e:Dv):Option Dv:=match x with
 | .tup xs=>if (e.cmp && DX xs && decide (DW xs<=150))=true then (RZ e xs).map fun j=>.int (j:Nat) else none
 | _=>none
theorem Vr (a b:Bool) (x y:Dv):Hy [mk a x,mk b y]=(FU x y).map (mk true):=by
 cases x<;>(first | rfl | simp only [mk,Hy.eq_def,FU.eq_def,PX,JX,JW,UI]);rename_i xs;cases (y.cmp && DX xs && decide (DW xs<=150))<;>simp [mk,Option.map_map,Function.comp_def]
noncomputable def Qh:Dv->Option String
 | .non=>some "NoneType"
 | .bl _=>some "bool"
 | .int _=>some "int"
 | .str _=>some "str"
 | .tup _=>some "tuple"
 | .lst _=>some "list"
 | _=>none
def jw (x y:Dv):Option Dv:=match y with
 | .ty T=>if (["int", "bool", "str", "tuple", "list"].contains T)=true then (Qh x).map fun k=>.bl (RX k T) else none
 | _=>none
theorem iz (a b:Bool) (x y:Dv):Ki [mk a x,mk b y]=(jw x y).map (mk true):=by
 have e:Yy (mk a x)=Qh x:=by cases x<;>(first | rfl | simp only [mk,Yy,Qh])
 cases y<;>(first | rfl | simp only [mk,Ki.eq_def,jw.eq_def,e]);split<;>simp_all [mk,Option.map_map,Function.comp_def]
noncomputable def mn (x y:Dv):Option Dv:=match x,y with
 | .int i,.int j=>some (.bl (decide (i<=j)))
 | .str a,.str b=>some (.bl (!decide (b < a)))
 | _,_=>none
theorem iy (a b:Bool) (x y:Dv):Sj [mk a x,mk b y]=(mn x y).map (mk true):=by cases x<;>cases y<;>(first | rfl | simp only [mk,Sj.eq_def,mn.eq_def,Option.map_none,Option.map_some])
noncomputable def rG (x:Dv):Option Dv:=match x with | .lst xs=>some (.lst xs.reverse) | _=>none
noncomputable def qO (x y:Dv):Option Dv:=match x,y with | .lst xs,.int i=>if i = -1 then some (.lst xs.reverse) else none | _,_=>none
noncomputable def QV (d:Dt):Option Bool:=match d with | .bl b=>some b | _=>none
noncomputable def aB (d:Dv):Option Bool:=match d with | .bl b=>some b | _=>none
theorem Ye (o:Bool) (d:Dv):QV (mk o d)=aB d:=by cases d<;>(first | rfl | simp only [mk,QV,aB.eq_def])
noncomputable def jv:Dv->Option Bool
 | .non=>some false
 | .bl b=>some b
 | .int i=>some (i != 0)
 | .str l=>if l.length<=1000000 then some (!l.isEmpty) else none
 | .tup ds=>some (!ds.isEmpty)
 | .lst ds=>some (!ds.isEmpty)
 | .scr ns=>some (!ns.isEmpty)
 | _=>none
theorem Vp (ds:List Dv):(Ar ds).isEmpty=ds.isEmpty:=by cases ds<;>simp [Ar]
theorem YS (o:Bool) (d:Dv):Qi (mk o d)=jv d:=by cases d<;>(first | rfl | simp only [mk,Qi,jv.eq_def,Vp])
noncomputable def Bg:Dv->Option (List Dv)
 | .tup ds=>some ds
 | .lst ds=>some ds
 | .scr ns=>some (ns.map .int)
 | _=>none
theorem JY (o:Bool) (d:Dv):items (mk o d)=(Bg d).map Ar:=by cases d<;>(first | rfl | simp only [mk,items,Bg.eq_def,Ds,cond_true,Option.map_some,PR])
noncomputable def lk (ρ:List (Option Dt)) (i:Nat):Option Dt:=(ρ[i]?).join
theorem my (ρ:List (Option Dt)) (S:List Ob) (i:Nat) (d:Option Dt):(M.mk ρ S).set i d=⟨ρ.set i d,S⟩:=rfl
theorem qa (ρ:List (Option Dt)) (S:List Ob) (js:List Nat):(M.mk ρ S).blank js=⟨DP js ρ,S⟩:=rfl
theorem aJ (ρ:List (Option Dt)):DP [] ρ=ρ:=rfl
theorem Uv (j:Nat) (js:List Nat) (ρ:List (Option Dt)):DP (j::js) ρ=DP js (ρ.set j none):=rfl
section
variable {α β:Type}
theorem kx {α β:Type} {r:Option (α×M)} {F:α×M->Option β} {k:α->M->Option β} (h:∀ a m1,F (a,m1)=k a m1):(r >>= F)=kB r k:=by
 cases r with
 | none=>rfl
 | some p=>exact h _ _
theorem WT (i:Int) (m:M):Aa (.int i) m=some (mk true (.int i),m):=by simp only [Aa,mk]
theorem WQ (i:List Nat) (m:M):Aa (.str i) m=some (mk true (.str i),m):=by simp only [Aa,mk]
theorem aF (i:Bool) (m:M):Aa (.bl i) m=some (mk true (.bl i),m):=by simp only [Aa,mk]
theorem WR (m:M):Aa .non m=some (mk true .non,m):=by simp only [Aa,mk]
theorem aE (T:String) (m:M):Aa (.ty T) m=some (mk true (.ty T),m):=by simp only [Aa,mk]
theorem WS (T:List (List Nat)) (m:M):Aa (.mtp T) m=some (mk true (.mtp T),m):=by simp only [Aa,mk]
theorem Zu (i:Nat) (m:M):Ab i m=(lk m.ρ i).bind fun d=>some (d.fz,m.set i (some d.fz)):=by
  unfold Ab;show (lk m.ρ i).bind _=_;cases h:lk m.ρ i with
  | none=>rfl
  | some d =>
    show (if d.cp=true then _ else _)=_;split
    · rename_i c;have h2:m.ρ[i]?=some (some d):=CJ h;have hi:=(List.getElem?_eq_some_iff.mp h2);have e:m.set i (some d)=m:=by
        unfold M.set;have:m.ρ.set i (some d)=m.ρ:=by rw [<- hi.2];exact List.set_getElem_self _
        rw [this]
      simp only [Option.bind_some,fv d c,e]
    · rfl
theorem md (i:Nat) (m:M):Hb i m=(lk m.ρ i).bind fun d=>some (d,m.set i none):=rfl
theorem KL (m:M):AV [] m=some ([],m):=rfl
theorem KJ (f:Ev Dt) (os:List Om) (m:M):AV (.ev f::os) m=kB (f m) fun d m1=>kB (AV os m1) fun ds m2=>some (d::ds,m2):=rfl
theorem Mh (i:Nat) (os:List Om) (m:M):AV (.rf i::os) m=(lk m.ρ i).bind fun _=>kB (AV os m) fun ds m2=>(lk m2.ρ i).bind fun d=>some (d::ds,m2):=rfl
theorem KI (p:Pr) (os:List Om) (m:M):AB p os m=kB (AV os m) fun ds m1=>(p ds).bind fun d=>some (d,m1):=rfl
def Je (os:List Om) (m:M):Option (List Dt×M):=AV os m
theorem jj (m:M):Je [] m=some (Ar [],m):=by simp only [Je,AV,Ar]
theorem ji (f:Ev Dt) (os:List Om) (m:M):Je (.ev f::os) m=kB (f m) fun d m1=>kB (Je os m1) fun ds m2=>some (d::ds,m2):=rfl
theorem aG (d:Dv) (ds:List Dv):mk false d::Ar ds=Ar (d::ds):=by simp only [Ar]
theorem mZ (t:List Dt->Dt) (os:List Om) (m:M):BI t os m=kB (Je os m) fun ds m1=>if ds.length<=1000000 then some (t ds,m1) else none:=rfl
theorem gE (ds:List Dv):Dt.tup (Ar ds)=mk true (.tup ds):=by simp only [mk]
theorem gJ (ds:List Dv):Dt.lst true (Ar ds)=mk true (.lst ds):=by simp only [mk]
theorem TU (f:Ev Dt) (m:M):Ca f m=kB (f m) fun d m1=>(QV d).bind fun b=>some (b,m1):=by
 unfold Ca;exact kx fun d m1=>by cases d<;>rfl
theorem gF (o:Om) (m:M):FE o m=kB (AV [o] m) fun ds m1=>match ds with | [d]=>(Qi d).bind fun b=>some (b,m1) | _=>none:=rfl
theorem aH (f g:Ev Bool) (m:M):IU f g m=kB (f m) fun b m1=>if b=true then g m1 else some (false,m1):=rfl
theorem jh (f g:Ev Bool) (m:M):Kl f g m=kB (f m) fun b m1=>if b=true then some (true,m1) else g m1:=rfl
theorem aA (f:Ev Bool) (m:M):GJ f m=kB (f m) fun b m1=>some (!b,m1):=rfl
theorem pK {α:Type} (c:Ev Bool) (f g:M->Option α) (m:M):DL c f g m=kB (c m) fun b m1=>if b=true then f m1 else g m1:=rfl
theorem TY (f g:Ev Dt) (m:M):KF f g m=kB (f m) fun d m1=>(QV d).bind fun b=>if b=true then g m1 else some (mk true (.bl false),m1):=by
 unfold KF;exact kx fun d m1=>by
  cases d<;>try rfl
  rename_i b;cases b<;>simp [QV.eq_def,mk]
theorem Zz (f g:Ev Dt) (m:M):OL f g m=kB (f m) fun d m1=>(QV d).bind fun b=>if b=true then some (mk true (.bl true),m1) else g m1:=by
 unfold OL;exact kx fun d m1=>by
  cases d<;>try rfl
  rename_i b;cases b<;>simp [QV.eq_def,mk]
theorem TV (f:Ev Dt) (m:M):KD f m=kB (f m) fun d m1=>(QV d).bind fun b=>some (mk true (.bl (!b)),m1):=by
 unfold KD;exact kx fun d m1=>by cases d<;>simp [QV.eq_def,mk]
theorem Ur (p p':Pr) (oa ob oc:Om) (m:M):Gh p p' oa ob oc m=kB (AV [oa,ob] m) fun ds m1=>match ds with
    | [d1,d2]=>(p [d1,d2]).bind fun r=>(QV r).bind fun b=>if b=true then (if d2.cp=true then kB (AV [oc] m1) fun es m2=>(match es with | [d3]=>(p' [d2,d3]).bind fun r'=>some (r',m2) | _=>none) else none) else some (mk true (.bl false),m1)
    | _=>none:=by
  unfold Gh;refine kx fun ds m1=>?_
  match ds with
  | [d1,d2] =>
    show (p [d1,d2]).bind _=(p [d1,d2]).bind _;congr 1;funext r;cases r<;>try rfl
    rename_i b;cases b
    · simp [QV.eq_def,mk]
    · simp only [QV.eq_def,Option.bind_some,if_true];cases d2.cp<;>rfl
  | []=>rfl
  | [_]=>rfl
  | _::_::_::_=>rfl
def eK (g:Es) (fl:Fl) (m:M):Option (Fl×M):=match fl with | .nx=>g m | _=>some (fl,m)
theorem XG (g:Es) (m:M):eK g .nx m=g m:=rfl
theorem XF (g:Es) (d:Dt) (m:M):eK g (.rt d) m=some (.rt d,m):=rfl
theorem jd (f g:Es) (m:M):Al f g m=kB (f m) (eK g):=by
 unfold Al;exact kx fun fl m1=>by cases fl<;>rfl
theorem ma (f:Ev Dt) (m:M):BG f m=kB (f m) fun d m1=>some (.rt d,m1):=rfl
theorem TX (f:Ev Dt) (m:M):DM f m=kB (f m) fun _ m1=>some (.nx,m1):=rfl
theorem mf (f:Ev Dt) (tg:Tg) (m:M):Ad f tg m=kB (f m) fun d m1=>(tg d m1).bind fun m2=>some (.nx,m2):=rfl
theorem IX (i:Nat) (d:Dt) (m:M):Aj i d m=if i < m.ρ.length then some (m.set i (some d)) else none:=rfl
theorem gH (i j:Nat) (os:List Om) (m:M):Rg i j os m=kB (AV os m) fun ds m1=>match ds with | [a,b]=>(Aj i a m1).bind fun m2=>(Aj j b m2).bind fun m3=>some (.nx,m3) | _=>none:=by
 unfold Rg;refine kx fun ds m1=>?_
 match ds with
 | [a,b] =>
  simp only [Aj]
  by_cases h1:i < m1.ρ.length<;>by_cases h2:j < m1.ρ.length<;>simp [h1,h2,M.set]
 | []=>rfl
 | [_]=>rfl
 | _::_::_::_=>rfl
theorem jk (f:Ev Dt) (m:M):AO f m=kB (f m) fun d m1=>some (d.fz,m1):=rfl
theorem jq {α:Type} (js:List Nat) (f:M->Option (α×M)) (m:M):Ae js f m=kB (f m) fun a m1=>some (a,m1.blank js):=by unfold Ae kB;cases f m<;>rfl
theorem me (src:Ev (List Dt)) (tg:Tg) (b:Es) (m:M):CY src tg b m=kB (src m) fun ds m1=>forL tg b ds m1:=rfl
def BY (x:Dv):Option (List Dv):=match x with | .int n=>if small n=true then some ((List.range n.toNat).map fun k=>.int (k:Nat)) else none | _=>none
def SF (x y:Dv):Option (List Dv):=match x,y with | .int i,.int n=>if (small i && small n)=true then some ((List.range (n - i).toNat).map fun k=>.int (i+(k:Nat))) else none | _,_=>none
def Nr (ds:List Dt):Option (List Dt):=match ds with | [.int n]=>bif small n then some ((List.range n.toNat).map fun k=>.int (0+(k:Nat))) else none | _=>none
def Nq (ds:List Dt):Option (List Dt):=match ds with | [.int i,.int n]=>bif small i && small n then some ((List.range (n - i).toNat).map fun k=>.int (i+(k:Nat))) else none | _=>none
theorem PP (n:Nat) (i:Int):Ar ((List.range n).map fun k:Nat=>Dv.int (i+k))=(List.range n).map fun k:Nat=>Dt.int (i+k):=by rw [Cu,List.map_map];rfl
theorem UN (o:Bool) (x:Dv):Nr [mk o x]=(BY x).map Ar:=by
 cases x<;>(first | rfl | simp only [mk,Nr.eq_def,BY.eq_def]);rename_i n;cases small n
 ·rfl
 ·have:=PP n.toNat 0;simp only [Int.zero_add] at this;simp [this]
theorem UM (o u:Bool) (x y:Dv):Nq [mk o x,mk u y]=(SF x y).map Ar:=by
 cases x<;>cases y<;>(first | rfl | simp only [mk,Nq.eq_def,SF.eq_def]);rename_i i n;cases (small i && small n)
 ·rfl
 ·simp [PP]
theorem jf (o:Om) (m:M):Bf o m=kB (AV [o] m) fun ds m1=>(Nr ds).bind fun is=>some (is,m1):=by
  unfold Bf;refine kx fun ds m1=>?_
  match ds with
  | []=>rfl
  | [d] => cases d <;> try rfl
           rename_i n;simp only [Nr.eq_def];cases small n<;>rfl
  | a::b::r=>simp [Nr.eq_def]
theorem je (o o':Om) (m:M):KC o o' m=kB (AV [o,o'] m) fun ds m1=>(Nq ds).bind fun is=>some (is,m1):=by
  unfold KC;refine kx fun ds m1=>?_
  match ds with
  | []=>rfl
  | [d]=>cases d<;>rfl
  | [a, b] => cases a <;> try rfl
              cases b<;>try rfl
              rename_i i n;simp only [Nq.eq_def];cases (small i && small n)<;>rfl
  | a::b::c::r=>simp [Nq.eq_def]
end
noncomputable def SD (d:Dv):Option (Dv×Dv):=match d with | .tup [a,b]=>some (a,b) | _=>none
noncomputable def gL (d:Dv):Option (Dv×Dv×Dv):=match d with | .tup [a,b,c]=>some (a,b,c) | _=>none
noncomputable def rO (d:Dv):Option (Dv×Dv):=match d with | .lst [a,b]=>some (a,b) | _=>none
noncomputable def rN (d:Dv):Option (Dv×Dv×Dv):=match d with | .lst [a,b,c]=>some (a,b,c) | _=>none
theorem Zw (f g:Tg) (o:Bool) (d:Dv) (m:M):Kv (AM f (AM g Bd)) (mk o d) m=(SD d).bind fun p=>(f (mk false p.1) m).bind fun m1=>g (mk false p.2) m1:=by
 cases d<;>(first | rfl | simp only [mk,Kv.eq_def,SD.eq_def]);rename_i xs
 match xs with
 | []=>simp [Ar,AM.eq_def]
 | [a]=>simp [Ar,AM.eq_def]
 | [a,b]=>simp [Ar,AM.eq_def,Bd.eq_def]
 | a::b::c::r=>simp [Ar,AM.eq_def,Bd.eq_def]
theorem Zv (f g h:Tg) (o:Bool) (d:Dv) (m:M):Kv (AM f (AM g (AM h Bd))) (mk o d) m=(gL d).bind fun p=>(f (mk false p.1) m).bind fun m1=>(g (mk false p.2.1) m1).bind fun m2=>h (mk false p.2.2) m2:=by
 cases d<;>(first | rfl | simp only [mk,Kv.eq_def,gL.eq_def]);rename_i xs
 match xs with
 | []=>simp [Ar,AM.eq_def]
 | [a]=>simp [Ar,AM.eq_def]
 | [a,b]=>simp [Ar,AM.eq_def]
 | [a,b,c]=>simp [Ar,AM.eq_def,Bd.eq_def]
 | a::b::c::d::r=>simp [Ar,AM.eq_def,Bd.eq_def]
theorem mX (o l:Om) (m:M):Re o l m=kB (AV [o,l] m) fun ds m1=>(match ds with | [d,.int i]=>Oo (some i) none d | _=>none).bind fun r=>some (r,m1):=rfl
theorem mY (o l:Om) (m:M):MT o l m=kB (AV [o,l] m) fun ds m1=>(match ds with | [d,.int i]=>Oo none (some i) d | _=>none).bind fun r=>some (r,m1):=rfl
def iU (a b:Dt):Option Dt:=match [a,b] with | [d,.int i]=>Oo (some i) none d | _=>none
def iV (a b:Dt):Option Dt:=match [a,b] with | [d,.int i]=>Oo none (some i) d | _=>none
theorem Zx (o l:Om) (m:M):Re o l m=kB (AV [o,l] m) fun ds m1=>(match ds with | [a,b]=>iU a b | _=>none).bind fun r=>some (r,m1):=by
 rw [mX];unfold kB;congr 1;funext ⟨ds,m1⟩
 match ds with
 | []=>rfl
 | [a]=>rfl
 | [a,b]=>rfl
 | a::b::c::r=>simp
theorem Zy (o l:Om) (m:M):MT o l m=kB (AV [o,l] m) fun ds m1=>(match ds with | [a,b]=>iV a b | _=>none).bind fun r=>some (r,m1):=by
 rw [mY];unfold kB;congr 1;funext ⟨ds,m1⟩
 match ds with
 | []=>rfl
 | [a]=>rfl
 | [a,b]=>rfl
 | a::b::c::r=>simp
theorem YT (a b:Bool) (x y:Dv):iU (mk a x) (mk b y)=(Tb x y).map (mk true):=by cases y<;>(first | rfl | simp only [iU.eq_def,Tb.eq_def,mk,YW])
theorem YU (a b:Bool) (x y:Dv):iV (mk a x) (mk b y)=(NF x y).map (mk true):=by cases y<;>(first | rfl | simp only [iV.eq_def,NF.eq_def,mk,YW])
open Classical in
def iW (ds hs:List Dt) (m1 m2:M):Option (Dt×M):=match ds,hs with | [d,.int i],[.int j]=>if m2=m1 then (Oo (some i) (some j) d).map fun r=>(r,m1) else none | _,_=>none
theorem gG (o l h:Om) (m:M):Rf o l h m=kB (AV [o,l] m) fun ds m1=>kB (AV [h] m1) fun hs m2=>iW ds hs m1 m2:=by
 unfold Rf;exact kx fun ds m1=>kx fun hs m2=>rfl
theorem YV (a b c:Bool) (x y z:Dv) (m:M):iW [mk a x,mk b y] [mk c z] m m=(dF x y z).bind fun r=>some (mk true r,m):=by
 cases y<;>cases z<;>(first | rfl | simp only [iW.eq_def,dF.eq_def,mk,YW,if_true]);rename_i i j;cases ab (some i) (some j) x<;>rfl
noncomputable def kH (T:String):Dv->Bool
 | .str _=>T == "str"
 | .lst _=>T == "list"
 | _=>false
theorem UO (o:Bool) (T:String) (d:Dv):(mk o d).ofTy T=kH T d:=by cases d<;>(first | rfl | simp only [mk,Dt.ofTy.eq_def,kH.eq_def])
theorem Tq (T:String) (f:Ev Dt) (m:M):Sd T (.ev f) m=true:=rfl
theorem nG (T:String) (i:Nat) (m:M):Sd T (.rf i) m=match lk m.ρ i with | some d=>d.ofTy T | none=>false:=rfl
def KR (T:String) (p:Pr) (c:Bool) (ds:List Dt) (m1:M):Option (Dt×M):=match ds with | d::_=>if (c && d.ofTy T)=true then (p ds).bind fun r=>some (r,m1) else none | _=>none
theorem aC (T:String) (p:Pr) (o:Om) (os:List Om) (m:M):Hc T p o os m=kB (AV (o::os) m) fun ds m1=>KR T p (Sd T o m) ds m1:=by
 unfold Hc;cases Sd T o m
 ·simp only [cond_false];generalize AV (o::os) m=z;cases z with
  | none=>rfl
  | some p=>obtain ⟨ds,m1⟩:=p;cases ds<;>rfl
 ·simp only [cond_true];refine kx fun ds m1=>?_
  cases ds with
  | nil=>rfl
  | cons d r=>cases h:d.ofTy T<;>simp [h,KR.eq_def]<;>cases p (d::r)<;>rfl
theorem cU (a b:Bool) (x y:Dv) (m:M) (c:Bool) (h:c=true\/c=kH "str" x):KR "str" MA c [mk a x,mk b y] m=(Jm x y).bind fun r=>some (mk true r,m):=by
 simp only [KR.eq_def,UO,cR,Mv];cases x<;>rcases h with rfl | rfl<;>simp [kH.eq_def,Jm.eq_def]
theorem RQ (a b:Bool) (x y:Dv) (m:M):KR "str" MA true [mk a x,mk b y] m=(Jm x y).bind fun r=>some (mk true r,m):=cU a b x y m _ (.inl rfl)
theorem Ym (a:Bool) (x:Dv) (m:M) (c:Bool) (h:c=true\/c=kH "str" x):KR "str" Ir c [mk a x] m=(Hq x).bind fun r=>some (mk true r,m):=by
 simp only [KR.eq_def,UO,YR,Mv];cases x<;>rcases h with rfl | rfl<;>simp [kH.eq_def,Hq.eq_def]
theorem Nz (a:Bool) (x:Dv) (m:M):KR "str" Ir true [mk a x] m=(Hq x).bind fun r=>some (mk true r,m):=Ym a x m _ (.inl rfl)
def PH (p:Pr) (ds:List Dt) (m1:M):Option (Dt×M):=match ds with | .tup _::_=>(p ds).bind fun r=>some (r,m1) | _=>none
theorem Uq (p:Pr) (f:Ev Dt) (os:List Om) (m:M):IE p f os m=kB (AV (.ev f::os) m) fun ds m1=>PH p ds m1:=by
 unfold IE;refine kx fun ds m1=>?_
 cases ds with
 | nil=>rfl
 | cons d r=>cases d<;>simp [PH.eq_def]<;>cases p _<;>rfl
theorem OA (a b:Bool) (x y:Dv) (m:M):PH Hy [mk a x,mk b y] m=(FU x y).bind fun r=>some (mk true r,m):=by
 have:=Vr a b x y;cases x<;>simp only [mk] at this<;>simp [PH.eq_def,mk,FU.eq_def]<;>rw [this];simp [FU.eq_def,Mv]
def Ve (p:Mu) (d:Option Dt) (ds:List Dt) (m1:M) (i:Nat):Option (Dt×M):=match d with
 | some (.lst true xs)=>(p xs ds).bind fun r=>some (r.1,m1.set i (some (.lst true r.2)))
 | _=>none
noncomputable def isL (d:Option Dt):Bool:=match d with | some (.lst _ _)=>true | _=>false
def Ly (p:Mu) (c:Bool) (d:Option Dt) (ds:List Dt) (m1:M) (i:Nat):Option (Dt×M):=if c=true then Ve p d ds m1 i else none
theorem gI (i:Nat) (p:Mu) (os:List Om) (m:M):EJ i p os m=kB (AV os m) fun ds m1=>Ly p (isL (lk m.ρ i)) (lk m1.ρ i) ds m1 i:=by
 have e:∀ m':M,lk m'.ρ i=(m'.ρ[i]?).join:=fun _=>rfl
 have q:∀ m':M,m'.ρ[i]?=none\/m'.ρ[i]?=some none\/∃ d,m'.ρ[i]?=some (some d):=fun m'=>by
  cases h:m'.ρ[i]? with
  | none=>exact .inl rfl
  | some x=>cases x with
   | none=>exact .inr (.inl rfl)
   | some d=>exact .inr (.inr ⟨d,rfl⟩)
 have nn:∀ z:Option (List Dt×M),(none:Option (Dt×M))=kB z fun ds m1=>if false=true then Ve p (lk m1.ρ i) ds m1 i else none:=fun z=>by cases z<;>rfl
 unfold EJ;rw [e];rcases q m with h | h | ⟨d,h⟩<;>rw [h]
 ·exact nn _
 ·exact nn _
 ·cases d<;>try exact nn _
  show (AV os m >>= _)=kB (AV os m) _;refine kx fun ds m1=>?_
  show _=Ve p (lk m1.ρ i) ds m1 i;rw [e];rcases q m1 with h | h | ⟨d,h⟩<;>(first | rfl | simp only [h])
  ·rfl
  ·rfl
  ·cases d<;>try rfl
   rename_i o xs;cases o<;>rfl
noncomputable def RY (d:Dv):Bool:=match d with | .lst _=>true | _=>false
theorem Yb (o:Bool) (d:Dv):isL (some (mk o d))=RY d:=by cases d<;>(first | rfl | simp only [mk,isL.eq_def,RY.eq_def])
noncomputable def BP (x y:Dv):Option Dv:=match x with | .lst xs=>if xs.length<=1000000 then some (.lst (xs++[y])) else none | _=>none
theorem Ny (x y:Dv) (m:M) (i:Nat):Ly CI (RY x) (some (mk true x)) [mk false y] m i=(BP x y).bind fun r=>some (mk true .non,m.set i (some (mk true r))):=by
 unfold Ly;cases x<;>simp [RY.eq_def,BP.eq_def,mk,Ve.eq_def,CI.eq_def];split<;>simp [mk,LD,Ar]
noncomputable def IH (x y:Dv):Option Dv:=match x,y with | .lst xs,.lst ys=>if xs.length+ys.length<=1000000 then some (.lst (xs++ys)) else none | _,_=>none
theorem Nx (x y:Dv) (o:Bool) (m:M) (i:Nat):Ly GG (RY x) (some (mk true x)) [mk o y] m i=(IH x y).bind fun r=>some (mk true .non,m.set i (some (mk true r))):=by
 unfold Ly;cases x<;>simp [RY.eq_def,IH.eq_def];cases y<;>simp [mk,Ve.eq_def,GG.eq_def,Ds];split<;>simp [mk,LD]
noncomputable def rH (x:Dv):Option (Dv×Dv):=match x with | .lst xs=>(xs.getLast?).map fun d=>(d,.lst xs.dropLast) | _=>none
noncomputable def pO (x:Dv):Option Dv:=match x with | .lst _=>some (.lst []) | _=>none
def Dq (d:Dt) (k:List Dt) (x:Option Dt) (m2:M) (i:Nat):Option (Fl×M):=match k,x with
 | [.int k],some (.lst true xs)=>(Qb xs.length k).bind fun j=>some (.nx,m2.set i (some (.lst true (xs.set j d))))
 | _,_=>none
theorem Up (i:Nat) (f:Ev Dt) (o:Om) (m:M):DK i f o m=kB (f m) fun d m1=>(lk m1.ρ i).bind fun _=>kB (AV [o] m1) fun ks m2=>Dq d ks (lk m2.ρ i) m2 i:=by
  unfold DK;refine kx fun d m1=>?_
  show (lk m1.ρ i).bind _=(lk m1.ρ i).bind _;congr 1;funext _;refine kx fun ks m2=>?_
  show _=Dq d ks ((m2.ρ[i]?).join) m2 i;simp only [];cases h:m2.ρ[i]? with
  | none =>
    match ks with
    | []=>simp [Dq.eq_def]
    | [a]=>cases a<;>simp [Dq.eq_def]
    | a::b::r=>simp [Dq.eq_def]
  | some x=>cases x with
    | none =>
      match ks with
      | []=>simp [Dq.eq_def]
      | [a]=>cases a<;>simp [Dq.eq_def,Option.join]
      | a::b::r=>simp [Dq.eq_def]
    | some z =>
      match ks with
      | []=>simp [Dq.eq_def]
      | [a] => cases a <;> simp [Dq.eq_def, Option.join]
               cases z<;>try rfl
               rename_i o' xs;cases o'<;>rfl
      | a::b::r=>simp [Dq.eq_def]
def CL (x k d:Dv):Option Dv:=match k,x with | .int k,.lst xs=>(Qb xs.length k).map fun j=>.lst (xs.set j d) | _,_=>none
theorem RK (x k d:Dv) (o:Bool) (m:M) (i:Nat):Dq (mk false d) [mk o k] (some (mk true x)) m i=(CL x k d).bind fun r=>some (.nx,m.set i (some (mk true r))):=by
 cases k<;>cases x<;>simp [mk,Dq.eq_def,CL.eq_def];rename_i k xs;cases Qb xs.length k<;>simp [mk,Cu,List.map_set]
noncomputable def qu (f:Int->Int->Int) (x d:Dt):Option Dt:=match x,d with | .int a,.int b=>some (.int (f a b)) | _,_=>none
noncomputable def rL (f:Int->Int->Int) (x d:Dv):Option Dv:=match x,d with | .int a,.int b=>some (.int (f a b)) | _,_=>none
section
variable {τ γ ρ:Type}
inductive Lp (τ γ ρ:Type) where
 | go (c:γ) | bk (c:γ) | rt (d:τ) (r:ρ)
inductive Rs (τ γ ρ:Type) where
 | go (c:γ) | rt (d:τ) (r:ρ)
noncomputable def Rs.el {δ:Type} (x:Rs τ γ ρ) (f:γ->δ) (h:τ->ρ->δ):δ:=match x with | .go c=>f c | .rt d r=>h d r
noncomputable def Cm (g:Dv->γ->Option γ):List Dv->γ->Option γ
 | [],c=>some c
 | x::xs,c=>(g x c).bind fun c1=>Cm g xs c1
noncomputable def EX (g:Dv->γ->Option (Lp τ γ ρ)):List Dv->γ->Option (Rs τ γ ρ)
 | [],c=>some (.go c)
 | x::xs,c=>(g x c).bind fun l=>match l with
  | .go c1=>EX g xs c1
  | .bk c1=>some (.go c1)
  | .rt d r=>some (.rt d r)
noncomputable def ar (t:γ->Option Bool) (g:γ->Option γ):Nat->γ->Option γ
 | 0,_=>none
 | n+1,c=>(t c).bind fun b=>if b=true then (g c).bind (ar t g n) else some c
noncomputable def CM (g:Dv->γ->Option (Dv×γ)):List Dv->γ->Option (List Dv×γ)
 | [],c=>some ([],c)
 | x::xs,c=>(g x c).bind fun p=>(CM g xs p.2).bind fun q=>some (p.1::q.1,q.2)
noncomputable def Cv (g:Dv->Option Dv):List Dv->Option (List Dv)
 | []=>some []
 | x::xs=>(g x).bind fun p=>(Cv g xs).bind fun q=>some (p::q)
noncomputable def Mf (g:Dv->γ->Option (Option Dv×γ)):List Dv->γ->Option (List Dv×γ)
 | [],c=>some ([],c)
 | x::xs,c=>(g x c).bind fun p=>(Mf g xs p.2).bind fun q=>some (match p.1 with | some d=>d::q.1 | none=>q.1,q.2)
noncomputable def NR (g:Dv->Option (Option Dv)):List Dv->Option (List Dv)
 | []=>some []
 | x::xs=>(g x).bind fun p=>(NR g xs).bind fun q=>some (match p with | some d=>d::q | none=>q)
noncomputable def Gu {α:Type} (xs:List Dv) (o:Option α):Option α:=if xs.length<=1000000 then o else none
noncomputable def gY (p:Fl×M):Fl×M:=match p.1 with | .ct=>(.nx,p.2) | _=>p
theorem Wm (m:M):gY (.nx,m)=(.nx,m):=rfl
theorem Wk (d:Dt) (m:M):gY (.rt d,m)=(.rt d,m):=rfl
def Lp.fl (w:τ->Dv) (E:γ->M) (Er:ρ->M) (μ:Bool) (l:Lp τ γ ρ):Fl×M:=match l with | .go c=>(.nx,E c) | .bk c=>(.bk,E c) | .rt d r=>(.rt (mk μ (w d)),Er r)
def Rs.fl (w:τ->Dv) (E:γ->M) (Er:ρ->M) (μ:Bool) (l:Rs τ γ ρ):Fl×M:=match l with | .go c=>(.nx,E c) | .rt d r=>(.rt (mk μ (w d)),Er r)
theorem eZ (w:τ->Dv) (E:γ->M) (Er:ρ->M) (μ:Bool) (c:γ):(Lp.go c:Lp τ γ ρ).fl w E Er μ=(.nx,E c):=rfl
theorem eY (w:τ->Dv) (E:γ->M) (Er:ρ->M) (μ:Bool) (d:τ) (r:ρ):(Lp.rt d r:Lp τ γ ρ).fl w E Er μ=(.rt (mk μ (w d)),Er r):=rfl
noncomputable def VU (w:τ->Dv) (E:γ->M) (Er:ρ->M) (μ:Bool) (x:Option (Rs τ γ ρ)):Option (Fl×M):=x.map (Rs.fl w E Er μ)
theorem fq {β:Type} (w:τ->Dv) (E:γ->M) (Er:ρ->M) (μ:Bool) (x:Option (Rs τ γ ρ)) (k:Fl->M->Option β):kB (VU w E Er μ x) k=x.bind fun l=>l.el (fun c=>k .nx (E c)) fun d r=>k (.rt (mk μ (w d))) (Er r):=by
 cases x with
 | none=>rfl
 | some l=>cases l<;>rfl
theorem Zi {δ ε:Type} (x:Rs τ γ ρ) (f:γ->Option δ) (h:τ->ρ->Option δ) (k:δ->ε):(x.el f h).map k=x.el (fun c=>(f c).map k) fun d r=>(h d r).map k:=by cases x<;>rfl
theorem gC {δ ε:Type} (x:Rs τ γ ρ) (f:γ->Option (δ×M)) (h:τ->ρ->Option (δ×M)) (k:δ->M->Option ε):kB (x.el f h) k=x.el (fun c=>kB (f c) k) fun d r=>kB (h d r) k:=by cases x<;>rfl
theorem OG (tg:Tg) (b:Es) (d:Dt) (ds:List Dt) (m:M):forL tg b (d::ds) m=(((tg d m).bind b).map gY).bind fun p=>match p.1 with | .nx=>forL tg b ds p.2 | .ct=>forL tg b ds p.2 | .bk=>some (.nx,p.2) | .rt d=>some (.rt d,p.2):=by
 show ((tg d m).bind fun m1=>_)=_;cases tg d m with
 | none=>rfl
 | some m1 =>
  show ((b m1).bind fun p=>_)=_;simp only [Option.bind_some];cases b m1 with
  | none=>rfl
  | some p=>obtain ⟨fl,m2⟩:=p;cases fl<;>rfl
theorem HZ {tg:Tg} {b:Es} {E:γ->M} {g:Dv->γ->Option γ} (h:∀ x c,((tg (mk false x) (E c)).bind b).map gY=(g x c).map fun c1=>(.nx,E c1)):∀ (xs:List Dv) (c:γ),forL tg b (Ar xs) (E c)=(Cm g xs c).map fun c1=>(.nx,E c1)
 | [],c=>by simp only [Ar];rfl
 | x::xs,c=>by
  simp only [Ar,OG,h,Cm];cases g x c with
  | none=>rfl
  | some c1=>exact HZ h xs c1
theorem Ha {tg:Tg} {b:Es} {w:τ->Dv} {E:γ->M} {Er:ρ->M} {μ:Bool} {g:Dv->γ->Option (Lp τ γ ρ)} (h:∀ x c,((tg (mk false x) (E c)).bind b).map gY=(g x c).map (Lp.fl w E Er μ)):∀ (xs:List Dv) (c:γ),forL tg b (Ar xs) (E c)=VU w E Er μ (EX g xs c)
 | [],c=>by simp only [Ar];rfl
 | x::xs,c=>by
  simp only [Ar,OG,h,EX];cases g x c with
  | none=>rfl
  | some l =>
   cases l with
   | go c1=>exact Ha h xs c1
   | bk c1=>rfl
   | rt d r=>rfl
theorem kT (t:Ev Bool) (b:Es) (n:Nat) (m:M):We t b (n+1) m=(t m).bind fun q=>if q.1=true then ((b q.2).map gY).bind fun p=>match p.1 with | .nx=>We t b n p.2 | .ct=>We t b n p.2 | .bk=>some (.nx,p.2) | .rt d=>some (.rt d,p.2) else some (.nx,q.2):=by
 show ((t m).bind fun q=>_)=_;cases t m with
 | none=>rfl
 | some q =>
  obtain ⟨c,m1⟩:=q;simp only [Option.bind_some];cases c with
  | false=>rfl
  | true =>
   simp only [if_true];show ((b m1).bind fun p=>_)=_;cases b m1 with
   | none=>rfl
   | some p=>obtain ⟨fl,m2⟩:=p;cases fl<;>rfl
theorem kU {t:Ev Bool} {b:Es} {E:γ->M} {t':γ->Option Bool} {g:γ->Option γ} (ht:∀ c,t (E c)=(t' c).map fun q=>(q,E c)) (h:∀ c,(b (E c)).map gY=(g c).map fun c1=>(.nx,E c1)):∀ (n:Nat) (c:γ),We t b n (E c)=(ar t' g n c).map fun c1=>(.nx,E c1)
 | 0,c=>rfl
 | n+1,c=>by
  simp only [kT,ht,ar];cases t' c with
  | none=>rfl
  | some q =>
   cases q with
   | false=>rfl
   | true =>
    simp only [Option.map_some,Option.bind_some,if_true,h];cases g c with
    | none=>rfl
    | some c1=>exact kU ht h n c1
def FH (js:List Nat) (tg:Tg) (f:Ev Dt) (ds:List Dt) (m:M):Option (List Dt×M):=kB (Me js tg f ds m) fun xs m2=>some (xs,m2.blank js)
noncomputable def Ql (js:List Nat) (ρ0 ρ:List (Option Dt)):List (Option Dt):=js.foldl (fun ρ j=>match ρ0[j]? with | some (some d)=>bif d.cp then ρ.set j (some d) else ρ | _=>ρ) ρ
def bP (ρ0:List (Option Dt)) (j:Nat) (ρ:List (Option Dt)):List (Option Dt):=match lk ρ0 j with | some d=>if d.cp=true then ρ.set j (some d) else ρ | none=>ρ
theorem Qk (ρ0 ρ:List (Option Dt)):Ql [] ρ0 ρ=ρ:=rfl
theorem Nl (j:Nat) (js:List Nat) (ρ0 ρ:List (Option Dt)):Ql (j::js) ρ0 ρ=Ql js ρ0 (bP ρ0 j ρ):=by
 show Ql js ρ0 (match ρ0[j]? with | some (some d)=>bif d.cp then ρ.set j (some d) else ρ | _=>ρ)=_;congr 1;unfold bP lk;cases ρ0[j]? with
 | none=>rfl
 | some x=>cases x with
  | none=>rfl
  | some d=>show (bif d.cp then _ else _)=(if d.cp=true then _ else _);cases d.cp<;>rfl
theorem jl (src:Ev (List Dt)) (js:List Nat) (tg:Tg) (f:Ev Dt) (m:M):BO src js tg f m=kB (src m) fun ds m1=>if ds.length<=1000000 then kB (FH js tg f ds m1) fun xs m2=>some (.lst true xs,⟨Ql js m1.ρ m2.ρ,m2.S⟩) else none:=by
 unfold BO;refine kx fun ds m1=>?_
 simp only [];split
 ·unfold FH;rw [Ax];exact kx fun xs m2=>rfl
 ·rfl
theorem Gi {js:List Nat} {tg:Tg} {f:Ev Dt} {E:γ->M} {g:Dv->γ->Option (Dv×γ)} (h:∀ x c,((tg (mk false x) ((E c).blank js)).bind fun m1=>kB (f m1) fun d m2=>some (d,m2.blank js))=(g x c).map fun p=>(mk false p.1,(E p.2).blank js)) :
    ∀ (xs:List Dv) (c:γ) (m:M),m.blank js=(E c).blank js->FH js tg f (Ar xs) m=(CM g xs c).map fun p=>(Ar p.1,(E p.2).blank js)
  | [],c,m,e=>by simp only [Ar,FH,Me,CM,AK,Option.map_some,e]
  | x::xs,c,m,e=>by
    have hx:=h x c;simp only [Ar,CM,FH,Me];rw [<- e] at hx;cases h1:tg (mk false x) (m.blank js) with
    | none =>
      rw [h1] at hx;simp only [Option.bind_none] at hx;cases hg:g x c with
      | none=>rfl
      | some p=>rw [hg] at hx;cases hx
    | some m1 =>
      rw [h1] at hx;simp only [Option.bind_some] at hx;cases h2:f m1 with
      | none =>
        rw [h2] at hx;cases hg:g x c with
        | none=>simp [h2,kB]
        | some p=>rw [hg] at hx;cases hx
      | some q =>
        obtain ⟨d,m2⟩:=q;rw [h2] at hx;cases hg:g x c with
        | none=>rw [hg] at hx;cases hx
        | some p =>
          rw [hg] at hx;simp only [AK,Option.map_some,Option.some.injEq,Prod.mk.injEq] at hx;have ih:=Gi h xs p.2 m2 hx.2;unfold FH at ih;simp only [Option.bind_eq_bind,Option.bind_some,h2];rw [show ∀ z:Option (List Dt×M),kB (z.bind fun w=>some (d::w.1,w.2)) (fun xs m2=>some (xs,m2.blank js))=(kB z fun xs m2=>some (xs,m2.blank js)).map fun w=>(d::w.1,w.2) from fun z=>by cases z<;>rfl,ih];cases CM g xs p.2 with
          | none=>rfl
          | some q=>simp [Ar,hx.1]
theorem DN {js:List Nat} {tg:Tg} {f:Ev Dt} {m0:M} {g:Dv->Option Dv} (h:∀ x,((tg (mk false x) (m0.blank js)).bind fun m1=>kB (f m1) fun d m2=>some (d,m2.blank js))=(g x).map fun p=>(mk false p,m0.blank js))
    (xs:List Dv):FH js tg f (Ar xs) m0=(Cv g xs).map fun p=>(Ar p,m0.blank js):=by
  have:=Gi (γ:=Unit) (E:=fun _=>m0) (g:=fun x _=>(g x).map fun d=>(d,())) (fun x c=>by rw [h];cases g x<;>rfl) xs () m0 rfl;rw [this];have e:∀ xs,CM (γ:=Unit) (fun x _=>(g x).map fun d=>(d,())) xs ()=(Cv g xs).map fun l=>(l,()):=by
    intro xs
    induction xs with
    | nil=>rfl
    | cons x xs ih =>
      simp only [CM,Cv];cases g x with
      | none=>rfl
      | some d =>
        simp only [Option.map_some,Option.bind_some];rw [ih];cases Cv g xs<;>rfl
  rw [e];cases Cv g xs<;>rfl
def Hk (js:List Nat) (tg:Tg) (c:Ev Bool) (f:Ev Dt) (ds:List Dt) (m:M):Option (List Dt×M):=kB (DO js tg c f ds m) fun xs m2=>some (xs,m2.blank js)
theorem cz (src:Ev (List Dt)) (js:List Nat) (tg:Tg) (c:Ev Bool) (f:Ev Dt) (m:M):Cw src js tg c f m=kB (src m) fun ds m1=>if ds.length<=1000000 then kB (Hk js tg c f ds m1) fun xs m2=>some (.lst true xs,⟨Ql js m1.ρ m2.ρ,m2.S⟩) else none:=by
 unfold Cw;refine kx fun ds m1=>?_
 simp only [];split
 ·unfold Hk;rw [Ax];exact kx fun xs m2=>rfl
 ·rfl
theorem Rw (js:List Nat) (tg:Tg) (c:Ev Bool) (f:Ev Dt) (d:Dt) (ds:List Dt) (m:M):DO js tg c f (d::ds) m =
    ((tg d (m.blank js)).bind fun m1=>kB (c m1) fun b m2=>if b=true then kB (f m2) fun x m3=>some (some x,m3) else some (none,m2)).bind fun p=>(DO js tg c f ds p.2).map fun q=>(match p.1 with | some x=>x::q.1 | none=>q.1,q.2):=by
  show ((tg d (m.blank js)).bind _)=_;cases tg d (m.blank js) with
  | none=>rfl
  | some m1 =>
    show ((c m1).bind _)=_;simp only [Option.bind_some];cases c m1 with
    | none=>rfl
    | some q =>
      obtain ⟨b,m2⟩:=q;cases b with
      | false=>simp [kB]
      | true =>
        simp only [AK,Option.bind_some,if_true];cases h2:f m2 with
        | none=>rfl
        | some w =>
          obtain ⟨x,m3⟩:=w;simp only [AK,Option.bind_eq_bind,Option.bind_some];cases DO js tg c f ds m3<;>rfl
theorem Uk {js:List Nat} {tg:Tg} {cn:Ev Bool} {f:Ev Dt} {E:γ->M} {g:Dv->γ->Option (Option Dv×γ)}
    (h:∀ x c,((tg (mk false x) ((E c).blank js)).bind fun m1=>kB (cn m1) fun b m2=>if b=true then kB (f m2) fun d m3=>some (some d,m3.blank js) else some (none,m2.blank js))=(g x c).map fun p=>(p.1.map (mk false),(E p.2).blank js)) :
    ∀ (xs:List Dv) (c:γ) (m:M),m.blank js=(E c).blank js->Hk js tg cn f (Ar xs) m=(Mf g xs c).map fun p=>(Ar p.1,(E p.2).blank js)
  | [],c,m,e=>by simp only [Ar,Hk,DO,Mf,AK,Option.map_some,e]
  | x::xs,c,m,e=>by
    have hx:=h x c;simp only [Ar,Mf,Hk,Rw];rw [<- e] at hx;have hx2:(((tg (mk false x) (m.blank js)).bind fun m1=>kB (cn m1) fun b m2=>if b=true then kB (f m2) fun x m3=>some (some x,m3) else some (none,m2)).map fun p=>(p.1,p.2.blank js))=(g x c).map fun p=>(p.1.map (mk false),(E p.2).blank js):=by
      rw [<- hx];cases tg (mk false x) (m.blank js) with
      | none=>rfl
      | some m1 =>
        simp only [Option.bind_some];cases cn m1 with
        | none=>rfl
        | some q =>
          obtain ⟨b,m2⟩:=q;cases b with
          | false=>rfl
          | true=>simp only [AK,if_true];cases f m2<;>rfl
    cases hg:g x c with
    | none =>
      rw [hg] at hx2;simp only [Option.map_none,Option.map_eq_none_iff] at hx2;rw [hx2];rfl
    | some p =>
      rw [hg] at hx2;simp only [Option.map_some,Option.map_eq_some_iff,Prod.mk.injEq] at hx2;obtain ⟨⟨y,m3⟩,e1,e2,e3⟩:=hx2;rw [e1];have ih:=Uk h xs p.2 m3 e3;unfold Hk at ih;simp only at e2;subst e2;simp only [Option.bind_some];generalize DO js tg cn f (Ar xs) m3=z at ih ⊢;generalize Mf g xs p.2=w at ih ⊢;cases z with
      | none=>cases w with
        | none=>rfl
        | some q=>cases ih
      | some q=>cases w with
        | none=>cases ih
        | some q' =>
          obtain ⟨q1,q2⟩:=q;simp only [AK,Option.map_some,Option.some.injEq,Prod.mk.injEq] at ih;cases hp:p.1<;>simp [AK,Ar,ih.1,ih.2]
theorem Ul {js:List Nat} {tg:Tg} {cn:Ev Bool} {f:Ev Dt} {m0:M} {g:Dv->Option (Option Dv)}
    (h:∀ x,((tg (mk false x) (m0.blank js)).bind fun m1=>kB (cn m1) fun b m2=>if b=true then kB (f m2) fun d m3=>some (some d,m3.blank js) else some (none,m2.blank js))=(g x).map fun p=>(p.map (mk false),m0.blank js))
    (xs:List Dv):Hk js tg cn f (Ar xs) m0=(NR g xs).map fun p=>(Ar p,m0.blank js):=by
  have:=Uk (γ:=Unit) (E:=fun _=>m0) (g:=fun x _=>(g x).map fun d=>(d,())) (fun x c=>by rw [h];cases g x<;>rfl) xs () m0 rfl;rw [this];have e:∀ xs,Mf (γ:=Unit) (fun x _=>(g x).map fun d=>(d,())) xs ()=(NR g xs).map fun l=>(l,()):=by
    intro xs
    induction xs with
    | nil=>rfl
    | cons x xs ih =>
      simp only [Mf,NR];cases g x with
      | none=>rfl
      | some d =>
        simp only [Option.map_some,Option.bind_some];rw [ih];cases NR g xs<;>rfl
  rw [e];cases NR g xs<;>rfl
end
mutual
noncomputable def er:Dt->Dv
 | .non=>.non
 | .bl b=>.bl b
 | .int i=>.int i
 | .str x=>.str x
 | .tup xs=>.tup (kM xs)
 | .lst _ xs=>.lst (kM xs)
 | .dic _ _=>.non
 | .ref _=>.non
 | .scr ns=>.scr ns
 | .ty n=>.ty n
 | .mtp ls=>.mtp ls
 | .dti _ ls=>.dti ls
noncomputable def kM:List Dt->List Dv
 | []=>[]
 | d::ds=>er d::kM ds
end
mutual
theorem gA (o:Bool):∀ d:Dv,er (mk o d)=d
 | .non | .bl _ | .int _ | .str _ | .scr _ | .ty _ | .mtp _ | .dti _=>by simp only [mk,er]
 | .tup xs=>by simp only [mk,er];rw [TF xs]
 | .lst xs=>by simp only [mk,er];rw [TF xs]
theorem TF:∀ ds:List Dv,kM (Ar ds)=ds
 | []=>by simp only [Ar,kM]
 | d::ds=>by simp only [Ar,kM];rw [gA false d,TF ds]
end
open Classical in
def ups (ms:List Bool) (μ:Bool) (F:List Dv->Option (Dv×List Dv)):Fn:=fun ds S=>if ds=List.zipWith mk ms (ds.map er) then (F (ds.map er)).map fun r=>(mk μ r.1,r.2.map (mk true),S) else none
theorem Wa:∀ (ms:List Bool) (xs:List Dv),ms.length=xs.length->(List.zipWith mk ms xs).map er=xs
 | [],[],_=>rfl
 | [],_::_,h=>by cases h
 | _::_,[],h=>by cases h
 | m::ms,x::xs,h=>by
  simp only [List.zipWith_cons_cons,List.map_cons,gA];rw [Wa ms xs (by simpa using h)]
theorem HD {ms:List Bool} {μ:Bool} {F:List Dv->Option (Dv×List Dv)} (xs:List Dv) (S:List Ob) (h:ms.length=xs.length):ups ms μ F (List.zipWith mk ms xs) S=(F xs).map fun r=>(mk μ r.1,r.2.map (mk true),S):=by
 unfold ups;rw [Wa ms xs h,if_pos rfl]
theorem BK {ms:List Bool} {μ:Bool} {F:List Dv->Option (Dv×List Dv)} {N:Nat} {io:List Nat} {body:Es} (h:∀ (xs:List Dv) (S:List Ob),xs.length=ms.length->Bo N io body (List.zipWith mk ms xs) S=(F xs).map fun r=>(mk μ r.1,r.2.map (mk true),S)) :
    ∀ (ds:List Dt) (S:List Ob) (r:Dt×List Dt×List Ob),ds.length=ms.length->ups ms μ F ds S=some r->Bo N io body ds S=some r:=fun ds S r hl e=>by
  unfold ups at e;split at e
  · rename_i q;rw [q,h _ S (by simpa using hl)];exact e
  · cases e
theorem jo (Φ:Fn) (n:Nat) (io:List Nat) (os:List Om) (m:M):AW Φ n io os m=kB (AV os m) fun ds m1=>if ds.length=n then (Φ ds m1.S).bind fun r=>some (r.1,⟨Ms os io r.2.1 (cv os m1.ρ),r.2.2⟩) else none:=rfl
theorem aI (os:List Om) (bs:List Dt) (ρ:List (Option Dt)):Ms os [] bs ρ=ρ:=by cases bs<;>rfl
theorem Ut (os:List Om) (i:Nat) (io:List Nat) (b:Dt) (bs:List Dt) (ρ:List (Option Dt)):Ms os (i::io) (b::bs) ρ=Ms os io bs (match os[i]? with | some (.rf j)=>ρ.set j (some b) | _=>ρ):=rfl
theorem Um (ρ:List (Option Dt)):cv [] ρ=ρ:=rfl
theorem Zr (f:Ev Dt) (os:List Om) (ρ:List (Option Dt)):cv (.ev f::os) ρ=cv os ρ:=rfl
theorem Zq (j:Nat) (os:List Om) (ρ:List (Option Dt)):cv (.rf j::os) ρ=cv os (ρ.set j none):=rfl
theorem pL (N:Nat) (io:List Nat) (body:Es) (ds:List Dt) (S:List Ob):Bo N io body ds S=kB (body ⟨ds.map some++List.replicate (N - ds.length) none,S⟩) fun fl m1=>(EO io m1.ρ).bind fun bs=>match fl with | .rt d=>some (d,bs,m1.S) | .nx=>some (mk true .non,bs,m1.S) | _=>none:=by
 unfold Bo;refine kx fun fl m1=>?_
 simp only [];cases fl<;>simp [mk]<;>rfl
theorem aL (ρ:List (Option Dt)):EO [] ρ=some []:=rfl
theorem Uw (i:Nat) (io:List Nat) (ρ:List (Option Dt)):EO (i::io) ρ=(lk ρ i).bind fun b=>(EO io ρ).bind fun bs=>some (b::bs):=rfl
section
variable {α β δ:Type}
theorem eW (x:Option δ) (f:δ->Option α) (k:α->β):(x.bind f).map k=x.bind fun a=>(f a).map k:=by cases x<;>rfl
theorem UE (a:α) (k:α->β):(some a).map k=some (k a):=rfl
theorem UF (k:α->β):(none:Option α).map k=none:=rfl
theorem eV (x:Option δ) (f:δ->α) (k:α->β):(x.map f).map k=x.map fun a=>k (f a):=by cases x<;>rfl
theorem YO (c:Prop) [Decidable c] (x y:Option α) (k:α->β):(if c then x else y).map k=if c then x.map k else y.map k:=by split<;>rfl
theorem fw (xs:List Dv) (o:Option α):(if xs.length<=1000000 then o else none)=Gu xs o:=rfl
theorem Zc (xs:List Dv) (o:Option α) (k:α->Option β):Gu xs (o.bind k)=(Gu xs o).bind k:=by unfold Gu;split<;>rfl
end
noncomputable def FA (s:Dv->Option Dv):List Dv->Option (Dv×List Dv):=fun xs=>match xs with | [x0]=>(s x0).map fun r=>(r,[]) | _=>none
theorem Wn (a μ:Bool) (s:Dv->Option Dv) (x0:Dv) (S:List Ob):ups [a] μ (FA s) [mk a x0] S=(s x0).map fun r=>(mk μ r,[],S):=by
 rw [show ([mk a x0]:List Dt)=List.zipWith mk [a] [x0] from rfl,HD [x0] S rfl];simp only [FA.eq_def,Option.map_map,Function.comp_def,List.map_nil]
theorem fH (μ:Bool) (s:Dv->Option Dv) (x0:Dv) (S:List Ob):((FA s) [x0]).map (fun r=>(mk μ r.1,r.2.map (mk true),S))=(s x0).map fun r=>(mk μ r,[],S):=by
 simp only [FA.eq_def,Option.map_map,Function.comp_def,List.map_nil]
noncomputable def Gd (s:Dv->Option (Dv×Dv)):List Dv->Option (Dv×List Dv):=fun xs=>match xs with | [x0]=>(s x0).map fun r=>(r.1,[r.2]) | _=>none
theorem dc (a μ:Bool) (s:Dv->Option (Dv×Dv)) (x0:Dv) (S:List Ob):ups [a] μ (Gd s) [mk a x0] S=(s x0).map fun r=>(mk μ r.1,[mk true r.2],S):=by
 rw [show ([mk a x0]:List Dt)=List.zipWith mk [a] [x0] from rfl,HD [x0] S rfl];simp only [Gd.eq_def,Option.map_map,Function.comp_def,List.map_cons,List.map_nil]
theorem mC (μ:Bool) (s:Dv->Option (Dv×Dv)) (x0:Dv) (S:List Ob):((Gd s) [x0]).map (fun r=>(mk μ r.1,r.2.map (mk true),S))=(s x0).map fun r=>(mk μ r.1,[mk true r.2],S):=by
 simp only [Gd.eq_def,Option.map_map,Function.comp_def,List.map_cons,List.map_nil]
noncomputable def Bx (s:Dv->Dv->Option Dv):List Dv->Option (Dv×List Dv):=fun xs=>match xs with | [x0,x1]=>(s x0 x1).map fun r=>(r,[]) | _=>none
theorem da (a b μ:Bool) (s:Dv->Dv->Option Dv) (x0 x1:Dv) (S:List Ob):ups [a,b] μ (Bx s) [mk a x0,mk b x1] S=(s x0 x1).map fun r=>(mk μ r,[],S):=by
 rw [show ([mk a x0,mk b x1]:List Dt)=List.zipWith mk [a,b] [x0,x1] from rfl,HD [x0,x1] S rfl];simp only [Bx.eq_def,Option.map_map,Function.comp_def,List.map_nil]
theorem UW (μ:Bool) (s:Dv->Dv->Option Dv) (x0 x1:Dv) (S:List Ob):((Bx s) [x0,x1]).map (fun r=>(mk μ r.1,r.2.map (mk true),S))=(s x0 x1).map fun r=>(mk μ r,[],S):=by
 simp only [Bx.eq_def,Option.map_map,Function.comp_def,List.map_nil]
noncomputable def AR (s:Dv->Dv->Option (Dv×Dv)):List Dv->Option (Dv×List Dv):=fun xs=>match xs with | [x0,x1]=>(s x0 x1).map fun r=>(r.1,[r.2]) | _=>none
theorem dZ (a b μ:Bool) (s:Dv->Dv->Option (Dv×Dv)) (x0 x1:Dv) (S:List Ob):ups [a,b] μ (AR s) [mk a x0,mk b x1] S=(s x0 x1).map fun r=>(mk μ r.1,[mk true r.2],S):=by
 rw [show ([mk a x0,mk b x1]:List Dt)=List.zipWith mk [a,b] [x0,x1] from rfl,HD [x0,x1] S rfl];simp only [AR.eq_def,Option.map_map,Function.comp_def,List.map_cons,List.map_nil]
theorem OD (μ:Bool) (s:Dv->Dv->Option (Dv×Dv)) (x0 x1:Dv) (S:List Ob):((AR s) [x0,x1]).map (fun r=>(mk μ r.1,r.2.map (mk true),S))=(s x0 x1).map fun r=>(mk μ r.1,[mk true r.2],S):=by
 simp only [AR.eq_def,Option.map_map,Function.comp_def,List.map_cons,List.map_nil]
noncomputable def oO (s:Dv->Dv->Option (Dv×Dv×Dv)):List Dv->Option (Dv×List Dv):=fun xs=>match xs with | [x0,x1]=>(s x0 x1).map fun r=>(r.1,[r.2.1,r.2.2]) | _=>none
noncomputable def Ck (s:Dv->Dv->Dv->Option Dv):List Dv->Option (Dv×List Dv):=fun xs=>match xs with | [x0,x1,x2]=>(s x0 x1 x2).map fun r=>(r,[]) | _=>none
theorem dY (a b c μ:Bool) (s:Dv->Dv->Dv->Option Dv) (x0 x1 x2:Dv) (S:List Ob):ups [a,b,c] μ (Ck s) [mk a x0,mk b x1,mk c x2] S=(s x0 x1 x2).map fun r=>(mk μ r,[],S):=by
 rw [show ([mk a x0,mk b x1,mk c x2]:List Dt)=List.zipWith mk [a,b,c] [x0,x1,x2] from rfl,HD [x0,x1,x2] S rfl];simp only [Ck.eq_def,Option.map_map,Function.comp_def,List.map_nil]
theorem Yv (μ:Bool) (s:Dv->Dv->Dv->Option Dv) (x0 x1 x2:Dv) (S:List Ob):((Ck s) [x0,x1,x2]).map (fun r=>(mk μ r.1,r.2.map (mk true),S))=(s x0 x1 x2).map fun r=>(mk μ r,[],S):=by
 simp only [Ck.eq_def,Option.map_map,Function.comp_def,List.map_nil]
noncomputable def FZ (s:Dv->Dv->Dv->Option (Dv×Dv)):List Dv->Option (Dv×List Dv):=fun xs=>match xs with | [x0,x1,x2]=>(s x0 x1 x2).map fun r=>(r.1,[r.2]) | _=>none
theorem dX (a b c μ:Bool) (s:Dv->Dv->Dv->Option (Dv×Dv)) (x0 x1 x2:Dv) (S:List Ob):ups [a,b,c] μ (FZ s) [mk a x0,mk b x1,mk c x2] S=(s x0 x1 x2).map fun r=>(mk μ r.1,[mk true r.2],S):=by
 rw [show ([mk a x0,mk b x1,mk c x2]:List Dt)=List.zipWith mk [a,b,c] [x0,x1,x2] from rfl,HD [x0,x1,x2] S rfl];simp only [FZ.eq_def,Option.map_map,Function.comp_def,List.map_cons,List.map_nil]
theorem mB (μ:Bool) (s:Dv->Dv->Dv->Option (Dv×Dv)) (x0 x1 x2:Dv) (S:List Ob):((FZ s) [x0,x1,x2]).map (fun r=>(mk μ r.1,r.2.map (mk true),S))=(s x0 x1 x2).map fun r=>(mk μ r.1,[mk true r.2],S):=by
 simp only [FZ.eq_def,Option.map_map,Function.comp_def,List.map_cons,List.map_nil]
noncomputable def oN (s:Dv->Dv->Dv->Option (Dv×Dv×Dv)):List Dv->Option (Dv×List Dv):=fun xs=>match xs with | [x0,x1,x2]=>(s x0 x1 x2).map fun r=>(r.1,[r.2.1,r.2.2]) | _=>none
noncomputable def As (s:Dv->Dv->Dv->Dv->Option Dv):List Dv->Option (Dv×List Dv):=fun xs=>match xs with | [x0,x1,x2,x3]=>(s x0 x1 x2 x3).map fun r=>(r,[]) | _=>none
theorem dW (a b c d μ:Bool) (s:Dv->Dv->Dv->Dv->Option Dv) (x0 x1 x2 x3:Dv) (S:List Ob):ups [a,b,c,d] μ (As s) [mk a x0,mk b x1,mk c x2,mk d x3] S=(s x0 x1 x2 x3).map fun r=>(mk μ r,[],S):=by
 rw [show ([mk a x0,mk b x1,mk c x2,mk d x3]:List Dt)=List.zipWith mk [a,b,c,d] [x0,x1,x2,x3] from rfl,HD [x0,x1,x2,x3] S rfl];simp only [As.eq_def,Option.map_map,Function.comp_def,List.map_nil]
theorem RU (μ:Bool) (s:Dv->Dv->Dv->Dv->Option Dv) (x0 x1 x2 x3:Dv) (S:List Ob):((As s) [x0,x1,x2,x3]).map (fun r=>(mk μ r.1,r.2.map (mk true),S))=(s x0 x1 x2 x3).map fun r=>(mk μ r,[],S):=by
 simp only [As.eq_def,Option.map_map,Function.comp_def,List.map_nil]
noncomputable def HY (s:Dv->Dv->Dv->Dv->Option (Dv×Dv)):List Dv->Option (Dv×List Dv):=fun xs=>match xs with | [x0,x1,x2,x3]=>(s x0 x1 x2 x3).map fun r=>(r.1,[r.2]) | _=>none
theorem dU (a b c d μ:Bool) (s:Dv->Dv->Dv->Dv->Option (Dv×Dv)) (x0 x1 x2 x3:Dv) (S:List Ob):ups [a,b,c,d] μ (HY s) [mk a x0,mk b x1,mk c x2,mk d x3] S=(s x0 x1 x2 x3).map fun r=>(mk μ r.1,[mk true r.2],S):=by
 rw [show ([mk a x0,mk b x1,mk c x2,mk d x3]:List Dt)=List.zipWith mk [a,b,c,d] [x0,x1,x2,x3] from rfl,HD [x0,x1,x2,x3] S rfl];simp only [HY.eq_def,Option.map_map,Function.comp_def,List.map_cons,List.map_nil]
theorem lz (μ:Bool) (s:Dv->Dv->Dv->Dv->Option (Dv×Dv)) (x0 x1 x2 x3:Dv) (S:List Ob):((HY s) [x0,x1,x2,x3]).map (fun r=>(mk μ r.1,r.2.map (mk true),S))=(s x0 x1 x2 x3).map fun r=>(mk μ r.1,[mk true r.2],S):=by
 simp only [HY.eq_def,Option.map_map,Function.comp_def,List.map_cons,List.map_nil]
noncomputable def oM (s:Dv->Dv->Dv->Dv->Option (Dv×Dv×Dv)):List Dv->Option (Dv×List Dv):=fun xs=>match xs with | [x0,x1,x2,x3]=>(s x0 x1 x2 x3).map fun r=>(r.1,[r.2.1,r.2.2]) | _=>none
noncomputable def oK (s:Dv->Dv->Dv->Dv->Dv->Option Dv):List Dv->Option (Dv×List Dv):=fun xs=>match xs with | [x0,x1,x2,x3,x4]=>(s x0 x1 x2 x3 x4).map fun r=>(r,[]) | _=>none
noncomputable def oJ (s:Dv->Dv->Dv->Dv->Dv->Option (Dv×Dv)):List Dv->Option (Dv×List Dv):=fun xs=>match xs with | [x0,x1,x2,x3,x4]=>(s x0 x1 x2 x3 x4).map fun r=>(r.1,[r.2]) | _=>none
noncomputable def oI (s:Dv->Dv->Dv->Dv->Dv->Option (Dv×Dv×Dv)):List Dv->Option (Dv×List Dv):=fun xs=>match xs with | [x0,x1,x2,x3,x4]=>(s x0 x1 x2 x3 x4).map fun r=>(r.1,[r.2.1,r.2.2]) | _=>none
noncomputable def oH (s:Dv->Dv->Dv->Dv->Dv->Dv->Option Dv):List Dv->Option (Dv×List Dv):=fun xs=>match xs with | [x0,x1,x2,x3,x4,x5]=>(s x0 x1 x2 x3 x4 x5).map fun r=>(r,[]) | _=>none
noncomputable def oG (s:Dv->Dv->Dv->Dv->Dv->Dv->Option (Dv×Dv)):List Dv->Option (Dv×List Dv):=fun xs=>match xs with | [x0,x1,x2,x3,x4,x5]=>(s x0 x1 x2 x3 x4 x5).map fun r=>(r.1,[r.2]) | _=>none
noncomputable def oF (s:Dv->Dv->Dv->Dv->Dv->Dv->Option (Dv×Dv×Dv)):List Dv->Option (Dv×List Dv):=fun xs=>match xs with | [x0,x1,x2,x3,x4,x5]=>(s x0 x1 x2 x3 x4 x5).map fun r=>(r.1,[r.2.1,r.2.2]) | _=>none
noncomputable def oE (s:Dv->Dv->Dv->Dv->Dv->Dv->Dv->Option Dv):List Dv->Option (Dv×List Dv):=fun xs=>match xs with | [x0,x1,x2,x3,x4,x5,x6]=>(s x0 x1 x2 x3 x4 x5 x6).map fun r=>(r,[]) | _=>none
noncomputable def oD (s:Dv->Dv->Dv->Dv->Dv->Dv->Dv->Option (Dv×Dv)):List Dv->Option (Dv×List Dv):=fun xs=>match xs with | [x0,x1,x2,x3,x4,x5,x6]=>(s x0 x1 x2 x3 x4 x5 x6).map fun r=>(r.1,[r.2]) | _=>none
noncomputable def oC (s:Dv->Dv->Dv->Dv->Dv->Dv->Dv->Option (Dv×Dv×Dv)):List Dv->Option (Dv×List Dv):=fun xs=>match xs with | [x0,x1,x2,x3,x4,x5,x6]=>(s x0 x1 x2 x3 x4 x5 x6).map fun r=>(r.1,[r.2.1,r.2.2]) | _=>none
noncomputable def oB (s:Dv->Dv->Dv->Dv->Dv->Dv->Dv->Dv->Option Dv):List Dv->Option (Dv×List Dv):=fun xs=>match xs with | [x0,x1,x2,x3,x4,x5,x6,x7]=>(s x0 x1 x2 x3 x4 x5 x6 x7).map fun r=>(r,[]) | _=>none
noncomputable def oA (s:Dv->Dv->Dv->Dv->Dv->Dv->Dv->Dv->Option (Dv×Dv)):List Dv->Option (Dv×List Dv):=fun xs=>match xs with | [x0,x1,x2,x3,x4,x5,x6,x7]=>(s x0 x1 x2 x3 x4 x5 x6 x7).map fun r=>(r.1,[r.2]) | _=>none
noncomputable def ny (s:Dv->Dv->Dv->Dv->Dv->Dv->Dv->Dv->Option (Dv×Dv×Dv)):List Dv->Option (Dv×List Dv):=fun xs=>match xs with | [x0,x1,x2,x3,x4,x5,x6,x7]=>(s x0 x1 x2 x3 x4 x5 x6 x7).map fun r=>(r.1,[r.2.1,r.2.2]) | _=>none
theorem Wg {ms:List Bool} {μ:Bool} {F:List Dv->Option (Dv×List Dv)} (h:∀ xs,F xs=none) (ds:List Dt) (S:List Ob):ups ms μ F ds S=none:=by
 unfold ups;split
 ·rw [h];rfl
 ·rfl
noncomputable def oP (s:Option Dv):List Dv->Option (Dv×List Dv):=fun xs=>match xs with | []=>s.map fun r=>(r,[]) | _=>none
def jW (μ:Bool) (io:List Nat) (fl:Fl) (m:M):Option (Dt×List Dt×List Ob):=match fl with
 | .rt d=>(EO io m.ρ).bind fun bs=>some (d,bs,m.S)
 | .nx=>(EO io m.ρ).bind fun bs=>some (mk μ .non,bs,m.S)
 | _=>none
theorem Za (μ:Bool) (io:List Nat) (d:Dt) (m:M):jW μ io (.rt d) m=(EO io m.ρ).bind fun bs=>some (d,bs,m.S):=rfl
theorem Cn (μ:Bool) (N:Nat) (io:List Nat) (body:Es) (ds:List Dt) (S:List Ob) (ρ:List (Option Dt)) (h:ds.map some++List.replicate (N - ds.length) none=ρ):Bo N io body ds S=kB (body ⟨ρ,S⟩) (jW μ io):=by
 rw [pL,h];unfold kB;congr 1;funext ⟨fl,m⟩;have:mk μ Dv.non=mk true Dv.non:=by simp only [mk]
 cases fl<;>simp only [jW.eq_def,this]<;>cases EO io m.ρ<;>rfl
theorem gK (i:Nat) (f:Es) (m:M):OM i f m=kB (f m) fun fl m1=>match fl with | .nx=>(lk m1.ρ i).bind fun d=>some (.nx,m1.set i (some d.fz)) | _=>none:=by
 unfold OM;cases h:f m with
 | none=>rfl
 | some p =>
  obtain ⟨fl,m1⟩:=p;cases fl<;>simp only [AK];show ((lk m1.ρ i).map _).map _=_;cases lk m1.ρ i<;>rfl
noncomputable def Jf (k:Nat):List Dv->List Dv
 | []=>[]
 | d::ds=>.tup [.int k,d]::Jf (k+1) ds
def qW (d:Dv):Option (List Dv):=match d with | .lst ds=>some (Jf 0 ds) | _=>none
def qA (d:Dt):Option (List Dt):=match d with | .lst _ ds=>bif cps ds then some (FF 0 ds) else none | _=>none
theorem RI:∀ (ds:List Dv) (k:Nat),FF k (Ar ds)=Ar (Jf k ds)
 | [],k=>by simp only [Ar,FF,Jf]
 | d::ds,k=>by simp only [Ar,FF,Jf,mk];rw [RI ds (k+1)]
def qr (d:Dt):Option Dt:=match d with
 | .str l=>if l.length<=1000000 then some (.str l) else none
 | .int i=>if i.natAbs < 2 ^ 64 then some (.str (Zb i)) else none
 | _=>none
def rJ (d:Dv):Option Dv:=match d with
 | .str l=>if l.length<=1000000 then some (.str l) else none
 | .int i=>if i.natAbs < 2 ^ 64 then some (.str (Zb i)) else none
 | _=>none
def qz (fs:List (Ev Dt)) (x:Dv) (m:M):Option (Dt×M):=match x with | .str acc=>qG fs acc m | _=>none
noncomputable def qt (x:Dv) (d:Dt):Option Dv:=match x,d with | .str a,.str b=>if a.length+b.length<=1000000 then some (.str (a++b)) else none | _,_=>none
noncomputable def rK (x y:Dv):Option Dv:=match x,y with | .str a,.str b=>if a.length+b.length<=1000000 then some (.str (a++b)) else none | _,_=>none
noncomputable def rP (x:Dv):Option Dv:=match x with | .str a=>if a.length<=1000000 then some (.str a) else none | _=>none
end Q
namespace L2
open PySem PySem.Spec PyProof.Rows
theorem Cb {a b:Nat} (h:a≠b):@Ne Addr a b:=h
def Fk (h:Heap) (it l:Addr) (i:Nat):Bool->Prop
 | false=>h.IsListIter it l i
 | true=>h.IsTupleIter it l i
def FV (h:Heap) (l:Addr) (xs:Array Value):Bool->Prop
 | false=>h.IsList l xs
 | true=>h.IsTuple l xs
noncomputable def MJ (l:Addr):Bool->Obj
 | false=>{ cls:=.type "list_iterator", data:=.fields #[.ref l,.int 0 0] }
 | true=>{ cls:=.type "tuple_iterator", data:=.fields #[.ref l,.int 0 0] }
theorem Fk.at {h h':Heap} {it l:Addr} {i:Nat} {b:Bool} (x:Fk h it l i b) (k:∀ o,h.get? it=some o->h'.get? it=some o):Fk h' it l i b:=by
 cases b with
 | false=>obtain ⟨o,e,r⟩:=x;exact ⟨o,k o e,r⟩
 | true=>obtain ⟨o,e,r⟩:=x;exact ⟨o,k o e,r⟩
theorem FV.at {h h':Heap} {l:Addr} {xs:Array Value} {b:Bool} (x:FV h l xs b) (k:∀ o,h.get? l=some o->h'.get? l=some o):FV h' l xs b:=by
 cases b with
 | false=>obtain ⟨o,e,r⟩:=x;exact ⟨o,k o e,r⟩
 | true=>obtain ⟨o,e,r⟩:=x;exact ⟨o,k o e,r⟩
theorem Fk.obj {h:Heap} {it l:Addr} {i:Nat} {b:Bool} (x:Fk h it l i b):∃ o,h.get? it=some o/\∀ v,o.data≠.cell v:=by
 cases b with
 | false=>obtain ⟨o,e,c,d⟩:=x;exact ⟨o,e,fun v z=>by rw [d] at z;cases z⟩
 | true=>obtain ⟨o,e,c,d⟩:=x;exact ⟨o,e,fun v z=>by rw [d] at z;cases z⟩
theorem Fk.new {h:Heap} {l:Addr} {b:Bool}:Fk (h.push (MJ l b)) h.objs.size l 0 b:=by
 cases b with
 | false=>exact ⟨_,Heap.get?_push_size _ rfl,rfl,rfl⟩
 | true=>exact ⟨_,Heap.get?_push_size _ rfl,rfl,rfl⟩
section
variable {prog:Program} {w:World} {A:Around} {E:Value->Shared->Prop} {s:Shared}
theorem Fs {l:Addr} {xs:Array Value} {b:Bool} {Q:Value->Shared->Prop} (hl:FV s.heap l xs b) (hQ:Q (.ref s.heap.objs.size) { s with heap:=s.heap.push (MJ l b) }):wpAny (model prog w) A (pyIter (.ref l)) Q E s:=by
 cases b with
 | false=>exact wpAny_pyIter_list hl hQ
 | true=>exact wpAny_pyIter_tuple hl hQ
theorem Ec {it l:Addr} {i:Nat} {items:Array Value} {x:Value} {b:Bool} {Q:Value->Shared->Prop} (hit:Fk s.heap it l i b) (hl:FV s.heap l items b) (hx:items[i]?=some x)
    (hQ:∀ h',Fk h' it l (i+1) b->Heap.SameBut it s.heap h'->Q x { s with heap:=h' }):wpAny (model prog w) A (Builtin.SmallTypes.nextOf (.ref it)) Q E s:=by
  cases b with
  | false=>exact wpAny_nextOf_list_item hit hl hx hQ
  | true =>
    obtain ⟨o,ho,hc,hd⟩:=id hit;obtain ⟨ol,hol,_,nl,hdl⟩:=hl
    have ht:s.TypeIs (.ref it) "tuple_iterator" := ⟨o,ho,hc⟩
    unfold Builtin.SmallTypes.nextOf
    refine wpAny_bind (wpAny_callSpecial?_slot (name:=Str.ofString "__next__") ht F.slot_tuple_iterator_next
      (wpAny_call_entry F.slot_tuple_iterator_next ht F.entry_tuple_iterator_next ?_ (F.args_tuple_iterator_next_1 _)))
    show wpAny _ _ (field (.ref it) 0 >>= _) _ _ s;refine wpAny_bind (wpAny_field ho hd (x:=.ref l) rfl ?_);show wpAny _ _ (if (Value.ref l == Value.none)=true then _ else _) _ _ s;rw [if_neg (show ¬ ((Value.ref l == Value.none)=true) from Bool.false_ne_true)];show wpAny _ _ (field (.ref it) 1 >>= _) _ _ s;refine wpAny_bind (wpAny_field ho hd (x:=.int i 0) rfl ?_);show wpAny _ _ (seqItems? (.ref l) >>= _) _ _ s;refine wpAny_bind (wpAny_seqItems hol hdl ?_);simp only [Int.toNat_natCast,hx];refine wpAny_bind (wpAny_setField ho hd (by simp) (wpAny_pure ⟨x,rfl,wpAny_pure (hQ _ ?_ (Heap.SameBut.update ..))⟩));exact ⟨_,Heap.get?_update_self _ ho (Obj.isFreed_of_fields (Obj.data_mapFields hd _)),(Obj.cls_mapFields ..).trans hc,by
      rw [Obj.data_mapFields hd];simp [rawInt]⟩
theorem Jq {it l:Addr} {i:Nat} {items:Array Value} {b:Bool} {Q:Value->Shared->Prop} (hh:A.handled=none) (hit:Fk s.heap it l i b) (hl:FV s.heap l items b) (hx:items[i]?=none)
    (hE:∀ h' e,Heap.ExtBut it s.heap h'->(∃ o,h'.get? e=some o/\o.cls=.type "StopIteration")->E (.ref e) { s with heap:=h' }):wpAny (model prog w) A (Builtin.SmallTypes.nextOf (.ref it)) Q E s:=by
  cases b with
  | false=>exact wpAny_nextOf_list_end hh hit hl hx hE
  | true =>
    obtain ⟨o,ho,hc,hd⟩:=id hit;obtain ⟨ol,hol,_,nl,hdl⟩:=hl
    have ht:s.TypeIs (.ref it) "tuple_iterator" := ⟨o,ho,hc⟩
    unfold Builtin.SmallTypes.nextOf
    refine wpAny_bind (wpAny_callSpecial?_slot (name:=Str.ofString "__next__") ht F.slot_tuple_iterator_next
      (wpAny_call_entry F.slot_tuple_iterator_next ht F.entry_tuple_iterator_next ?_ (F.args_tuple_iterator_next_1 _)))
    show wpAny _ _ (field (.ref it) 0 >>= _) _ _ s;refine wpAny_bind (wpAny_field ho hd (x:=.ref l) rfl ?_);show wpAny _ _ (if (Value.ref l == Value.none)=true then _ else _) _ _ s;rw [if_neg (show ¬ ((Value.ref l == Value.none)=true) from Bool.false_ne_true)];show wpAny _ _ (field (.ref it) 1 >>= _) _ _ s;refine wpAny_bind (wpAny_field ho hd (x:=.int i 0) rfl ?_);show wpAny _ _ (seqItems? (.ref l) >>= _) _ _ s;refine wpAny_bind (wpAny_seqItems hol hdl ?_);simp only [Int.toNat_natCast,hx];refine wpAny_bind (wpAny_rule (wpAny_bind (wpAny_setField ho hd (by simp) ?_)))
    show wpAny _ _ (newExc (.type "StopIteration") [] >>= _) _ _ _
    refine wpAny_bind ?_;simp only [newExc,newTuple];refine wpAny_bind (wpAny_newObj_type ?_ (by size_fits));refine wpAny_bind (m:=firstArgMember _ _) (wpAny_of_eq (a:=Value.none) (by first | rfl | (simp only [firstArgMember];rfl)) ?_);refine wpAny_newObj_type ?_ (by size_fits);simp only [raiseNew];refine wpAny_bind (wpAny_handled ?_)
    first | rw [show A.in1.handled=none from hh] | rw [hh]
    refine wpAny_bind (wpAny_pure (wpAny_throw ?_));exact hE _ _ (((Heap.SameBut.update ..).extBut.push _).push _) ⟨_,Heap.get?_push_size _ rfl,rfl⟩
end
def II (K:W.Frag) (H:Hp) (a:Addr) (xs:List V):Bool->Prop
 | false=>HC K H a xs
 | true=>IK K H a xs
section
variable {X:Cx} {pins:List (Addr×Obj)} {σ:St} {H:Hp} {s:Shared} {a:Addr} {xs ys:List V} {b:Bool}
theorem Inv.sqB (I:Inv X pins σ H s) (h:II X.K H a xs b):∃ its:List Value,Am xs its/\FV s.heap a its.toArray b/\a < s.heap.objs.size:=by
 cases b with
 | false =>
  obtain ⟨its,r,p,_⟩:=I.list h;exact ⟨its,r,p.isList,by obtain ⟨o,n,e,_⟩:=p;exact Heap.lt_size e⟩
 | true =>
  obtain ⟨its,r,p,_⟩:=I.tuple h;exact ⟨its,r,p,by obtain ⟨o,e,_⟩:=p;exact Heap.lt_size e⟩
theorem Inv.sqB_inj (I:Inv X pins σ H s) (h:II X.K H a xs b) (h':II X.K H a ys b):xs=ys:=by
 cases b with
 | false=>exact I.list_inj h h'
 | true=>exact I.tuple_inj h h'
end
abbrev VD (h:Heap) (T:Addr) (v1 v2:Value):Prop:=h.get? T=some { cls:=.type "tuple", data:=.seq #[v1,v2] }
section
variable {prog:Program} {w:World} {A:Around} {E:Value->Shared->Prop} {s:Shared}
theorem Wj {T:Addr} {v1 v2 x:Value} {Q:Unit->Shared->Prop} (hT:VD s.heap T v1 v2) (h:∀ h',VD h' T x v2->Heap.SameBut T s.heap h'->Q () { s with heap:=h' }):wpAny (model prog w) A (updateSeq T (·.setIfInBounds 0 x)) Q E s:=by
 refine wpAny_updateSeq hT rfl (h _ ?_ (Heap.SameBut.update ..));show Heap.get? _ _=_;rw [Heap.get?_update_self _ hT rfl];simp [Obj.mapSeq]
theorem gW {T:Addr} {v1 v2 x:Value} {Q:Unit->Shared->Prop} (hT:VD s.heap T v1 v2) (h:∀ h',VD h' T v1 x->Heap.SameBut T s.heap h'->Q () { s with heap:=h' }):wpAny (model prog w) A (updateSeq T (·.setIfInBounds 1 x)) Q E s:=by
 refine wpAny_updateSeq hT rfl (h _ ?_ (Heap.SameBut.update ..));show Heap.get? _ _=_;rw [Heap.get?_update_self _ hT rfl];simp [Obj.mapSeq]
structure Zst2 (h:Heap) (I:Nat) (l1 l2:Nat) (b1 b2:Bool) (i:Nat) (f0:Value):Prop where
 z:IsZip h (I+4) (I+2) (I+3) f0
 ti:VD h (I+2) (.ref I) (.ref (I+1))
 to:∃ v1 v2,VD h (I+3) v1 v2
 s1:Fk h I l1 i b1
 s2:Fk h (I+1) l2 i b2
theorem Zst2.at {h h':Heap} {I l1 l2:Nat} {b1 b2:Bool} {i:Nat} {f0:Value} (x:Zst2 h I l1 l2 b1 b2 i f0) (k:∀ (c:Nat) o,I<=c->c < I+5->h.get? c=some o->h'.get? c=some o):Zst2 h' I l1 l2 b1 b2 i f0:=
 ⟨k _ _ (by omega) (by omega) x.z,k _ _ (by omega) (by omega) x.ti,let ⟨v1,v2,e⟩:=x.to;⟨v1,v2,k _ _ (by omega) (by omega) e⟩,x.s1.at fun o e=>k _ o (by omega) (by omega) e,x.s2.at fun o e=>k _ o (by omega) (by omega) e⟩
theorem VF {I l1 l2:Nat} {b1 b2:Bool} {i:Nat} {xs1 xs2:Array Value} {y1 y2:Value} {Q:Value->Shared->Prop} (hz:Zst2 s.heap I l1 l2 b1 b2 i .none) (hl1:FV s.heap l1 xs1 b1) (lt1:l1 < I) (hl2:FV s.heap l2 xs2 b2) (lt2:l2 < I) (hx1:xs1[i]?=some y1) (hx2:xs2[i]?=some y2)
    (hQ:∀ h',Zst2 h' I l1 l2 b1 b2 (i+1) (rawInt s.heap.objs.size)->VD h' s.heap.objs.size y1 y2->h'.objs.size=s.heap.objs.size+1->(∀ (c:Nat) o,(c < I\/I+5<=c)->s.heap.get? c=some o->h'.get? c=some o)->Q (.ref s.heap.objs.size) { s with heap:=h' }) :
    wpAny (model prog w) A (Builtin.«zip.__next__» ⟨[.ref (I+4)],[]⟩) (fun fin s'=>∃ v,fin=.done (.ret v)/\Q v s') E s:=by
  obtain ⟨z0,ti0,⟨v1,v2,to0⟩,s10,s20⟩:=hz;show wpAny _ _ (field (.ref (I+4)) 2 >>= _) _ _ _;refine wpAny_bind (wpAny_field z0 rfl (x:=.bool false) rfl ?_);show wpAny _ _ (field (.ref (I+4)) 3 >>= _) _ _ _;refine wpAny_bind (wpAny_field z0 rfl (x:=.ref (I+2)) rfl ?_);refine wpAny_bind (wpAny_seqItems ti0 rfl ?_);show wpAny _ _ (Builtin.SmallTypes.ownedTupleIsFree (.ref (I+4)) >>= _) _ _ _;refine wpAny_bind ?_;unfold Builtin.SmallTypes.ownedTupleIsFree;refine wpAny_bind (wpAny_field z0 rfl (x:=.none) rfl (wpAny_pure ?_));simp only [if_true];refine wpAny_bind (wpAny_rule ?_);refine wpAny_bind (wpAny_field z0 rfl (x:=.ref (I+3)) rfl ?_);refine wpAny_bind (wpAny_setField_rec z0 (by simp) fun h₁ hz₁ hs₁=>?_);replace hz₁:IsZip h₁ (I+4) (I+2) (I+3) .ellipsis:=hz₁;refine wpAny_bind ?_;simp only [List.zipIdx_cons,List.zipIdx_nil,List.forIn_cons,List.forIn_nil];have g0:∀ (c:Nat) o,c≠(I+4)->s.heap.get? c=some o->h₁.get? c=some o:=fun c o c1 e=>hs₁.extBut _ _ c1 e
  have k0:∀ (c:Nat) o,c≠(I+4)->c≠(I+3)->(c < I\/I<=c)->s.heap.get? c=some o->h₁.get? c=some o:=fun c o c1 _ _ e=>g0 c o c1 e
  have to1:VD h₁ (I+3) v1 v2:=g0 _ _ (by omega) to0;refine wpAny_bind (wpAny_bind (wpAny_onRaise ?_));show wpAny _ _ (Builtin.SmallTypes.nextOf (.ref I) >>= _) _ _ _;refine wpAny_bind (Ec (s10.at fun o e=>k0 _ o (by omega) (by omega) (by omega) e) (hl1.at fun o e=>k0 _ o (by omega) (by omega) (by omega) e) hx1 fun p1 si1 sp1=>wpAny_pure ?_);have u1:VD p1 (I+3) v1 v2:=sp1.extBut _ _ (Cb (by omega)) to1;refine wpAny_bind (wpAny_seqItems u1 rfl ?_);refine wpAny_bind (Wj u1 fun q1 to2 sq1=>?_);have k1:∀ (c:Nat) o,c≠(I+4)->c≠(I+3)->(c < I\/I+1<=c)->s.heap.get? c=some o->q1.get? c=some o:=fun c o c1 c2 c3 e=>sq1.extBut _ _ c2 (sp1.extBut _ _ (Cb (by omega)) (k0 c o c1 c2 (by omega) e))
  have zz1:IsZip q1 (I+4) (I+2) (I+3) .ellipsis:=sq1.extBut _ _ (Cb (by omega)) (sp1.extBut _ _ (Cb (by omega)) hz₁);have w1_1:Fk q1 I l1 (i+1) b1:=si1.at fun o e=>sq1.extBut _ _ (Cb (by omega)) e
  refine wpAny_bind (wpAny_letGo (wpAny_pure ?_));refine wpAny_bind (wpAny_bind (wpAny_onRaise ?_));show wpAny _ _ (Builtin.SmallTypes.nextOf (.ref (I+1)) >>= _) _ _ _;refine wpAny_bind (Ec (s20.at fun o e=>k1 _ o (by omega) (by omega) (by omega) e) (hl2.at fun o e=>k1 _ o (by omega) (by omega) (by omega) e) hx2 fun p2 si2 sp2=>wpAny_pure ?_);have u2:VD p2 (I+3) y1 v2:=sp2.extBut _ _ (Cb (by omega)) to2;refine wpAny_bind (wpAny_seqItems u2 rfl ?_);refine wpAny_bind (gW u2 fun q2 to3 sq2=>?_);have k2:∀ (c:Nat) o,c≠(I+4)->c≠(I+3)->(c < I\/I+2<=c)->s.heap.get? c=some o->q2.get? c=some o:=fun c o c1 c2 c3 e=>sq2.extBut _ _ c2 (sp2.extBut _ _ (Cb (by omega)) (k1 c o c1 c2 (by omega) e))
  have zz2:IsZip q2 (I+4) (I+2) (I+3) .ellipsis:=sq2.extBut _ _ (Cb (by omega)) (sp2.extBut _ _ (Cb (by omega)) zz1);have w2_2:Fk q2 (I+1) l2 (i+1) b2:=si2.at fun o e=>sq2.extBut _ _ (Cb (by omega)) e
  have w1_2:Fk q2 I l1 (i+1) b1:=w1_1.at fun o e=>sq2.extBut _ _ (Cb (by omega)) (sp2.extBut _ _ (Cb (by omega)) e)
  refine wpAny_bind (wpAny_letGo (wpAny_pure (wpAny_pure ?_)));refine wpAny_bind (wpAny_seqItems to3 rfl ?_);refine wpAny_bind (wpAny_newTuple ?_);have hsz:q2.objs.size=s.heap.objs.size:=by rw [sq2.1,sp2.1,sq1.1,sp1.1,hs₁.1]
  have zlt:(I+4) < q2.objs.size:=Heap.lt_size zz2;show wpAny _ _ (Builtin.SmallTypes.ownedTupleHandOut (.ref (I+4)) (.ref q2.objs.size) >>= _) _ _ _;refine wpAny_bind ?_;unfold Builtin.SmallTypes.ownedTupleHandOut
  have z6:IsZip (q2.push { cls:=.type "tuple", data:=.seq #[y1,y2] }) (I+4) (I+2) (I+3) .ellipsis:=Heap.get?_push_of_some _ zz2
  refine wpAny_bind (wpAny_setField_rec z6 (by simp) fun h₇ hz₇ hs₇=>?_);replace hz₇:IsZip h₇ (I+4) (I+2) (I+3) (rawInt q2.objs.size):=hz₇;refine wpAny_setField_rec hz₇ (by simp) fun h₈ hz₈ hs₈=>?_
  replace hz₈:IsZip h₈ (I+4) (I+2) (I+3) (rawInt q2.objs.size):=hz₈;have up:∀ (c:Nat) o,c≠(I+4)->q2.get? c=some o->h₈.get? c=some o:=fun c o c1 e=>hs₈.extBut _ _ c1 (hs₇.extBut _ _ c1 (Heap.get?_push_of_some _ e))
  have hT₈:VD h₈ q2.objs.size y1 y2:=hs₈.extBut _ _ (Cb (by omega)) (hs₇.extBut _ _ (Cb (by omega)) (Heap.get?_push_size _ rfl));have hz8:h₈.objs.size=q2.objs.size+1:=by rw [hs₈.1,hs₇.1,Heap.size_push]
  rw [hsz] at hz₈ hT₈ hz8;refine wpAny_pure ⟨_,rfl,?_⟩;show Q (.ref q2.objs.size) _;rw [hsz];exact hQ h₈ ⟨hz₈,up _ _ (by omega) (k2 _ _ (by omega) (by omega) (by omega) ti0),⟨y1,y2,up _ _ (by omega) to3⟩,w1_2.at fun o e=>up _ o (by omega) e,w2_2.at fun o e=>up _ o (by omega) e⟩ hT₈ hz8 fun c o hc e=>up c o (by omega) (k2 c o (by omega) (by omega) (by omega) e)
theorem Wc {I l1 l2:Nat} {b1 b2:Bool} {i:Nat} {xs1 xs2:Array Value} {Q:Fin->Shared->Prop} (hh:A.handled=none) (hz:Zst2 s.heap I l1 l2 b1 b2 i .none) (hl1:FV s.heap l1 xs1 b1) (lt1:l1 < I) (hl2:FV s.heap l2 xs2 b2) (lt2:l2 < I) (hend:xs1[i]?=none\/xs2[i]?=none)
    (hE:∀ h' e,(∀ (c:Nat) o,(c < I\/I+5<=c)->s.heap.get? c=some o->h'.get? c=some o)->(∃ o,h'.get? e=some o/\o.cls=.type "StopIteration")->E (.ref e) { s with heap:=h' }) :
    wpAny (model prog w) A (Builtin.«zip.__next__» ⟨[.ref (I+4)],[]⟩) Q E s:=by
  obtain ⟨z0,ti0,⟨v1,v2,to0⟩,s10,s20⟩:=hz;show wpAny _ _ (field (.ref (I+4)) 2 >>= _) _ _ _;refine wpAny_bind (wpAny_field z0 rfl (x:=.bool false) rfl ?_);show wpAny _ _ (field (.ref (I+4)) 3 >>= _) _ _ _;refine wpAny_bind (wpAny_field z0 rfl (x:=.ref (I+2)) rfl ?_);refine wpAny_bind (wpAny_seqItems ti0 rfl ?_);show wpAny _ _ (Builtin.SmallTypes.ownedTupleIsFree (.ref (I+4)) >>= _) _ _ _;refine wpAny_bind ?_;unfold Builtin.SmallTypes.ownedTupleIsFree;refine wpAny_bind (wpAny_field z0 rfl (x:=.none) rfl (wpAny_pure ?_));simp only [if_true];refine wpAny_bind (wpAny_rule ?_);refine wpAny_bind (wpAny_field z0 rfl (x:=.ref (I+3)) rfl ?_);refine wpAny_bind (wpAny_setField_rec z0 (by simp) fun h₁ hz₁ hs₁=>?_);replace hz₁:IsZip h₁ (I+4) (I+2) (I+3) .ellipsis:=hz₁;refine wpAny_bind ?_;simp only [List.zipIdx_cons,List.zipIdx_nil,List.forIn_cons,List.forIn_nil];have g0:∀ (c:Nat) o,c≠(I+4)->s.heap.get? c=some o->h₁.get? c=some o:=fun c o c1 e=>hs₁.extBut _ _ c1 e
  have k0:∀ (c:Nat) o,c≠(I+4)->c≠(I+3)->(c < I\/I<=c)->s.heap.get? c=some o->h₁.get? c=some o:=fun c o c1 _ _ e=>g0 c o c1 e
  have to1:VD h₁ (I+3) v1 v2:=g0 _ _ (by omega) to0;have zz0:IsZip h₁ (I+4) (I+2) (I+3) .ellipsis:=hz₁;refine wpAny_bind (wpAny_bind (wpAny_onRaise ?_));show wpAny _ _ (Builtin.SmallTypes.nextOf (.ref I) >>= _) _ _ _;cases hx1:xs1[i]? with
  | none =>
    refine wpAny_bind (Jq hh (s10.at fun o e=>k0 _ o (by omega) (by omega) (by omega) e) (hl1.at fun o e=>k0 _ o (by omega) (by omega) (by omega) e) hx1 fun h₂ e hs₂ he=>?_);obtain ⟨oe,hoe,hce⟩:=he;have hz₂:IsZip h₂ (I+4) (I+2) (I+3) .ellipsis:=hs₂ _ _ (Cb (by omega)) zz0;have hez:e≠(I+4):=fun x=>by subst x;rw [hz₂] at hoe;cases hoe;simp at hce
    exact wpAny_setField_rec hz₂ (by simp) fun h₃ _ hs₃=>hE h₃ e (fun c o hc x=>hs₃.extBut _ _ (Cb (by omega)) (hs₂ _ _ (Cb (by omega)) (k0 c o (by omega) (by omega) (by omega) x))) ⟨oe,hs₃.extBut _ _ hez hoe,hce⟩
  | some y1 =>
    refine wpAny_bind (Ec (s10.at fun o e=>k0 _ o (by omega) (by omega) (by omega) e) (hl1.at fun o e=>k0 _ o (by omega) (by omega) (by omega) e) hx1 fun p1 si1 sp1=>wpAny_pure ?_);have u1:VD p1 (I+3) v1 v2:=sp1.extBut _ _ (Cb (by omega)) to1;refine wpAny_bind (wpAny_seqItems u1 rfl ?_);refine wpAny_bind (Wj u1 fun q1 to2 sq1=>?_);have k1:∀ (c:Nat) o,c≠(I+4)->c≠(I+3)->(c < I\/I+1<=c)->s.heap.get? c=some o->q1.get? c=some o:=fun c o c1 c2 c3 e=>sq1.extBut _ _ c2 (sp1.extBut _ _ (Cb (by omega)) (k0 c o c1 c2 (by omega) e))
    have zz1:IsZip q1 (I+4) (I+2) (I+3) .ellipsis:=sq1.extBut _ _ (Cb (by omega)) (sp1.extBut _ _ (Cb (by omega)) zz0);refine wpAny_bind (wpAny_letGo (wpAny_pure ?_));refine wpAny_bind (wpAny_bind (wpAny_onRaise ?_));show wpAny _ _ (Builtin.SmallTypes.nextOf (.ref (I+1)) >>= _) _ _ _;cases hx2:xs2[i]? with
    | none =>
      refine wpAny_bind (Jq hh (s20.at fun o e=>k1 _ o (by omega) (by omega) (by omega) e) (hl2.at fun o e=>k1 _ o (by omega) (by omega) (by omega) e) hx2 fun h₂ e hs₂ he=>?_);obtain ⟨oe,hoe,hce⟩:=he;have hz₂:IsZip h₂ (I+4) (I+2) (I+3) .ellipsis:=hs₂ _ _ (Cb (by omega)) zz1;have hez:e≠(I+4):=fun x=>by subst x;rw [hz₂] at hoe;cases hoe;simp at hce
      exact wpAny_setField_rec hz₂ (by simp) fun h₃ _ hs₃=>hE h₃ e (fun c o hc x=>hs₃.extBut _ _ (Cb (by omega)) (hs₂ _ _ (Cb (by omega)) (k1 c o (by omega) (by omega) (by omega) x))) ⟨oe,hs₃.extBut _ _ hez hoe,hce⟩
    | some y2 =>
      simp [hx1,hx2] at hend
theorem Jv {I l1 l2:Nat} {b1 b2:Bool} {i:Nat} {xs1 xs2:Array Value} {y1 y2:Value} {Q:Option Value->Shared->Prop} (hz:Zst2 s.heap I l1 l2 b1 b2 i .none) (hl1:FV s.heap l1 xs1 b1) (lt1:l1 < I) (hl2:FV s.heap l2 xs2 b2) (lt2:l2 < I) (hx1:xs1[i]?=some y1) (hx2:xs2[i]?=some y2)
    (hQ:∀ h',Zst2 h' I l1 l2 b1 b2 (i+1) (rawInt s.heap.objs.size)->VD h' s.heap.objs.size y1 y2->h'.objs.size=s.heap.objs.size+1->(∀ (c:Nat) o,(c < I\/I+5<=c)->s.heap.get? c=some o->h'.get? c=some o)->Q (some (.ref s.heap.objs.size)) { s with heap:=h' }) :
    wpAny (model prog w) A (pyNext (.ref (I+4))) Q E s:=by
  have hT:s.TypeIs (.ref (I+4)) "zip" := ⟨_,hz.z,rfl⟩
  unfold pyNext
  exact wpAny_bind (wpAny_attempt (wpAny_callSpecial?_slot (name:=Str.ofString "__next__") hT F.slot_zip_next
    (wpAny_call_entry F.slot_zip_next hT F.entry_zip_next (VF hz hl1 lt1 hl2 lt2 hx1 hx2 fun h' a1 a2 a3 a4=>wpAny_pure (hQ h' a1 a2 a3 a4)) (F.args_zip_next_1 _))))
theorem Kh {I l1 l2:Nat} {b1 b2:Bool} {i:Nat} {xs1 xs2:Array Value} {Q:Option Value->Shared->Prop} (hh:A.handled=none) (hz:Zst2 s.heap I l1 l2 b1 b2 i .none) (hl1:FV s.heap l1 xs1 b1) (lt1:l1 < I) (hl2:FV s.heap l2 xs2 b2) (lt2:l2 < I) (hend:xs1[i]?=none\/xs2[i]?=none)
    (hQ:∀ h',(∀ (c:Nat) o,(c < I\/I+5<=c)->s.heap.get? c=some o->h'.get? c=some o)->Q none { s with heap:=h' }) :
    wpAny (model prog w) A (pyNext (.ref (I+4))) Q E s:=by
  have hT:s.TypeIs (.ref (I+4)) "zip" := ⟨_,hz.z,rfl⟩
  unfold pyNext
  refine wpAny_bind (wpAny_attempt (wpAny_callSpecial?_slot (name:=Str.ofString "__next__") hT F.slot_zip_next
    (wpAny_call_entry F.slot_zip_next hT F.entry_zip_next (Wc hh hz hl1 lt1 hl2 lt2 hend fun h' e hk he=>?_) (F.args_zip_next_1 _))))
  obtain ⟨o,ho,hc⟩:=he
  refine wpAny_bind (wpAny_isInstance (T := "StopIteration") (b:=true) ⟨o,ho,hc⟩ isSubtype_stop ?_)
  exact wpAny_pure (hQ _ hk)
abbrev Ng (h:Heap) (l1 l2:Nat) (b1 b2:Bool):Heap:=h.push (MJ l1 b1)
abbrev Tj (h:Heap) (l1 l2:Nat) (b1 b2:Bool):Heap:=(Ng h l1 l2 b1 b2).push (MJ l2 b2)
abbrev Ti (h:Heap) (l1 l2:Nat) (b1 b2:Bool):Heap:=(Tj h l1 l2 b1 b2).push { cls:=.type "tuple", data:=.seq #[.ref h.objs.size,.ref (Ng h l1 l2 b1 b2).objs.size] }
abbrev Th (h:Heap) (l1 l2:Nat) (b1 b2:Bool):Heap:=(Ti h l1 l2 b1 b2).push { cls:=.type "tuple", data:=.seq #[.none,.none] }
abbrev LS (h:Heap) (l1 l2:Nat) (b1 b2:Bool):Heap:=(Th h l1 l2 b1 b2).push { cls:=.type "zip", data:=.fields #[.none,.bool false,.bool false,.ref (Tj h l1 l2 b1 b2).objs.size,.ref (Ti h l1 l2 b1 b2).objs.size] }
theorem Sw (l1 l2:Nat) (b1 b2:Bool) (xs1 xs2:Array Value) :
    Meets (Builtin.«zip.__new__» ⟨[.type "zip", .ref l1,.ref l2],[]⟩) (fun _ R s=>FV s.heap l1 xs1 b1/\FV s.heap l2 xs2 b2 /\
      R (.ok (.ret (.ref (Th s.heap l1 l2 b1 b2).objs.size))) { s with heap:=LS s.heap l1 l2 b1 b2 }):=
  .of_wp fun prog w A R s h=>by
    obtain ⟨hp,g,d,tk,os⟩:=s;obtain ⟨hl1,hl2,h⟩:=h;have hsub:=sub_zip;have hL1:FV (Shared.heap ⟨hp,g,d,tk,os⟩) l1 xs1 b1:=hl1.at fun o e=>e
    have hL2:FV (Shared.heap ⟨(Ng hp l1 l2 b1 b2),g,d,tk,os⟩) l2 xs2 b2:=hl2.at fun o e=>Heap.get?_push_of_some _ e
    wp_walk using Fs hL1,Fs hL2
    exact ⟨_,rfl,h⟩
theorem WM {l1 l2:Nat} {b1 b2:Bool} {xs1 xs2:Array Value} {Q:Value->Shared->Prop} (hl1:FV s.heap l1 xs1 b1) (hl2:FV s.heap l2 xs2 b2)
    (h:∀ h',Zst2 h' s.heap.objs.size l1 l2 b1 b2 0 .none->h'.objs.size=s.heap.objs.size+5->(∀ (c:Nat) o,s.heap.get? c=some o->h'.get? c=some o)->Q (.ref (s.heap.objs.size+4)) { s with heap:=h' }) :
    wpAny (model prog w) A (call (.type "zip") [.ref l1,.ref l2]) Q E s:=by
  refine callType_new F.called_zip (by decide) (F.typeCall_zip_2 _ _) (F.newCall_zip_2 _ _) (fun obj=>F.args_object_init_3 obj _ _) F.entry_zip_new (Sw l1 l2 b1 b2 xs1 xs2) ⟨hl1,hl2,?_⟩;have z1:(Ng s.heap l1 l2 b1 b2).objs.size=s.heap.objs.size+1:=by exact Heap.size_push ..
  have z2:(Tj s.heap l1 l2 b1 b2).objs.size=s.heap.objs.size+2:=by rw [Heap.size_push,z1]
  have z3:(Ti s.heap l1 l2 b1 b2).objs.size=s.heap.objs.size+3:=by rw [Heap.size_push,z2]
  have z4:(Th s.heap l1 l2 b1 b2).objs.size=s.heap.objs.size+4:=by rw [Heap.size_push,z3]
  have z5:(LS s.heap l1 l2 b1 b2).objs.size=s.heap.objs.size+5:=by rw [Heap.size_push,z4]
  have gz:(LS s.heap l1 l2 b1 b2).get? (Th s.heap l1 l2 b1 b2).objs.size=some _:=Heap.get?_push_size _ rfl;have gto:(LS s.heap l1 l2 b1 b2).get? (Ti s.heap l1 l2 b1 b2).objs.size=some _:=(Heap.get?_push_of_some _ (Heap.get?_push_size _ rfl));have gti:(LS s.heap l1 l2 b1 b2).get? (Tj s.heap l1 l2 b1 b2).objs.size=some _:=(Heap.get?_push_of_some _ (Heap.get?_push_of_some _ (Heap.get?_push_size _ rfl)));have gs1:Fk (LS s.heap l1 l2 b1 b2) s.heap.objs.size l1 0 b1:=Fk.at (Fk.new (h:=s.heap)) fun o e=>(Heap.get?_push_of_some _ (Heap.get?_push_of_some _ (Heap.get?_push_of_some _ (Heap.get?_push_of_some _ e))))
  have gs2:Fk (LS s.heap l1 l2 b1 b2) (Ng s.heap l1 l2 b1 b2).objs.size l2 0 b2:=Fk.at (Fk.new (h:=(Ng s.heap l1 l2 b1 b2))) fun o e=>(Heap.get?_push_of_some _ (Heap.get?_push_of_some _ (Heap.get?_push_of_some _ e)))
  show _/\_;rw [z2,z3,z4] at gz;rw [z3] at gto;rw [z1,z2] at gti;rw [z1] at gs2;rw [z4];exact ⟨⟨_,gz,rfl⟩,h _ ⟨gz,gti,⟨_,_,gto⟩,gs1,gs2⟩ z5 fun c o x=>(Heap.get?_push_of_some _ (Heap.get?_push_of_some _ (Heap.get?_push_of_some _ (Heap.get?_push_of_some _ (Heap.get?_push_of_some _ x)))))⟩
end
theorem eT {I b:Nat} (h:¬ b∈([(I+4),(I+2),(I+3),I,(I+1)]:List Nat)):b < I\/I+5<=b:=by simp only [List.mem_cons,List.not_mem_nil,or_false,not_or] at h;omega
theorem mO {I b:Nat} (h:b∈([(I+4),(I+2),(I+3),I,(I+1)]:List Nat)):I<=b/\b < I+5:=by simp only [List.mem_cons,List.not_mem_nil,or_false] at h;omega
def dN (K:W.Frag) (a1 a2:Nat) (b1 b2:Bool):It:=
 ⟨fun i H=>∃ xs1 xs2 y1 y2,II K H a1 xs1 b1/\xs1[i]?=some y1/\II K H a2 xs2 b2/\xs2[i]?=some y2,fun i H x H'=>∃ p y1 y2,H p=none/\x=.ref p/\H'=upd H p (.tup [y1,y2])/\(∀ xs,II K H a1 xs b1->xs[i]?=some y1)/\(∀ xs,II K H a2 xs b2->xs[i]?=some y2),fun i H=>∃ xs1 xs2,II K H a1 xs1 b1/\II K H a2 xs2 b2/\(xs1.length<=i\/xs2.length<=i)⟩
theorem VI {P:Program} {w:World} {K:W.Frag} {elts:List Expr} {x1} {pos:Pos} (I a1 a2:Nat) (b1 b2:Bool) (lt1:a1 < I) (lt2:a2 < I):Turn P w K (.Tuple elts x1 pos) (dN K a1 a2 b1 b2) [(I+4),(I+2),(I+3),I,(I+1)] (I+4) (fun i h=>Zst2 h I a1 a2 b1 b2 i .none) where
 mem:=by simp
 obj:=fun i h st b hb=>by
  obtain ⟨z0,ti0,⟨v1,v2,to0⟩,s10,s20⟩:=st;simp only [List.mem_cons,List.not_mem_nil,or_false] at hb;rcases hb with rfl | rfl | rfl | rfl | rfl
  ·exact ⟨_,z0,fun v z=>by cases z⟩
  ·exact ⟨_,ti0,fun v z=>by cases z⟩
  ·exact ⟨_,to0,fun v z=>by cases z⟩
  ·exact s10.obj
  ·exact s20.obj
 keep:=fun i h h' st k=>st.at fun c o c1 c2 e=>k c (by show c∈([(I+4),(I+2),(I+3),I,(I+1)]:List Nat);simp only [List.mem_cons,List.not_mem_nil,or_false];omega) o e
 item:=by
  intro X hP hw hK hc i pins s σ H E I1 hf st hg;subst hP hw hK;obtain ⟨ws1,ws2,y1,y2,hq1,hy1,hq2,hy2⟩:=hg;obtain ⟨its1,rv1,p1,hl1⟩:=I1.sqB hq1;obtain ⟨u1,hu1,ru1⟩:=rv1.get hy1;obtain ⟨its2,rv2,p2,hl2⟩:=I1.sqB hq2;obtain ⟨u2,hu2,ru2⟩:=rv2.get hy2;refine Jv st p1 lt1 p2 lt2 (y1:=u1) (y2:=u2) (by simpa using hu1) (by simpa using hu2) fun h1 st1 t1 z1 k1=>?_
  refine ⟨_,rfl,wpAny_letOwnedTupleGo_zip (s:={ s with heap:=h1 }) st1.z fun h2 e2 sb=>?_⟩;have hzl:(I+4) < s.heap.objs.size:=Heap.lt_size st.z;have hfr:=I1.hok.fresh (Nat.le_refl s.heap.objs.size)
  have I2:Inv X pins σ (upd H s.heap.objs.size (.tup [y1,y2])) { s with heap:=s.heap.push { cls:=.type "tuple", data:=.seq #[u1,u2] },toks:=s.toks }:=
   I1.laid (fun b o q=>Heap.get?_push_of_some _ q) (Nat.le_refl _) (show CZ X.prog X.w _ _ _ (.tup [y1,y2]) from ⟨by show 2<=sizeLine;decide,[u1,u2],(.cons ru1 (.cons ru2 .nil)),Kr.new _ _⟩)
  have hb:∀ b∈([(I+4),(I+2),(I+3),I,(I+1)]:List Nat),I<=b/\b < I+5:=fun b hb=>mO hb
  have hf1:∀ b∈([(I+4),(I+2),(I+3),I,(I+1)]:List Nat),FpOk X pins (upd H s.heap.objs.size (.tup [y1,y2])) b:=fun b hbb=>by
   obtain ⟨f0,r⟩:=hf b hbb;refine ⟨?_,r⟩;rw [BL (Nat.ne_of_lt (Nat.lt_of_lt_of_le (hb b hbb).2 (by omega)))];exact f0
  have I3:Inv X pins σ (upd H s.heap.objs.size (.tup [y1,y2])) { s with heap:=h2,toks:=s.toks }:=by
   refine Inv.turnedL (s:={ s with heap:=s.heap.push { cls:=.type "tuple", data:=.seq #[u1,u2] },toks:=s.toks }) (h':=h2) (t':=s.toks) (ch:=[(I+4),(I+2),(I+3),I,(I+1)]) I2 (fun b o hbb q=>?_) hf1
   have q:(s.heap.push { cls:=.type "tuple", data:=.seq #[u1,u2] }).get? b=some o:=q
   have hbe:b≠(I+4):=fun z=>hbb (by simp [z])
   refine (sb.2 b hbe).trans ?_
   by_cases hbs:b=s.heap.objs.size
   ·subst hbs;rw [Heap.get?_push_size _ rfl] at q;rw [<- q];exact t1
   ·rw [Heap.get?_push_ne _ _ _ hbs] at q;exact k1 b o (eT hbb) q
  refine ⟨.ref s.heap.objs.size,_,I3,rfl,⟨_,y1,y2,hfr,rfl,rfl,fun zs hz=>by rw [I1.sqB_inj hz hq1];exact hy1,fun zs hz=>by rw [I1.sqB_inj hz hq2];exact hy2⟩,?_,fun b hbb=>(hf1 b hbb).1⟩;exact ⟨e2,sb.extBut _ _ (Cb (by omega)) st1.ti,let ⟨v1,v2,e⟩:=st1.to;⟨v1,v2,sb.extBut _ _ (Cb (by omega)) e⟩,st1.s1.at fun o e=>sb.extBut _ _ (Cb (by omega)) e,st1.s2.at fun o e=>sb.extBut _ _ (Cb (by omega)) e⟩
 done:=by
  intro X hP hw hK hc i pins s σ H E I1 hf st hg;subst hP hw hK;obtain ⟨ws1,ws2,hq1,hq2,hend⟩:=hg;obtain ⟨its1,rv1,p1,hl1⟩:=I1.sqB hq1;have le1:=rv1.length;obtain ⟨its2,rv2,p2,hl2⟩:=I1.sqB hq2;have le2:=rv2.length;have hend2:its1.toArray[i]?=none\/its2.toArray[i]?=none:=by
   rcases hend with h | h
   ·exact .inl (by simp;omega)
   ·exact .inr (by simp;omega)
  refine Kh (I1.ok.hd hc) st p1 lt1 p2 lt2 hend2 fun h' k=>⟨rfl,?_⟩
  refine Inv.turnedL (t':=s.toks) (ch:=[(I+4),(I+2),(I+3),I,(I+1)]) I1 (fun b o hbb e=>k b o (eT hbb) e) hf
 self:=fun _ _ _ _ _ st h=>wpAny_pyIter_zip st.z h
section
variable {X:Cx} {elts:List Expr} {x1} {tpos:Pos}
abbrev mQ (K:W.Frag) (ta:TA):TI:=fun σ H R=>ta σ H fun vs H1=>∃ a1 a2 b1 b2,vs=[.ref a1,.ref a2]/\(∃ xs,II K H1 a1 xs b1)/\(∃ xs,II K H1 a2 xs b2)/\R (dN K a1 a2 b1 b2) H1
theorem bq (K:W.Frag) {e1 e2:Expr} {ta:TA} {p pos:Pos} (hg:Gl X "zip") (hm:X.mg "zip" = none) (ha:PA X [e1,e2] ta) (hK:X.K=K:=by rfl) (hs:starEach (e1::[e2]) X.env=(false,eval e1 X.env)::starEach [e2] X.env:=by rfl) (hpl:(backTo pos (starEach [e2] X.env)).any (·.1)=false:=by rfl):PI X (.Tuple elts x1 tpos) (.Call (.Name "zip" p) [e1,e2] [] pos) (mQ K ta):=by
 subst hK;intro pins s σ H R I h;refine Call_ (Fb I hg hm PyProof.Rows.Boot.«zip» (PyProof.Rows.callWith_type1 (CQ (ha pos pins s σ H _ I h) fun us s1 ⟨vs,H1,I1,r1,q1⟩=>?_) hs hpl));obtain ⟨a1,a2,b1,b2,rfl,⟨ws1,hq1⟩,⟨ws2,hq2⟩,q⟩:=q1;obtain ⟨its1,rv1,p1,hl1⟩:=I1.sqB hq1;obtain ⟨its2,rv2,p2,hl2⟩:=I1.sqB hq2;have rr:=r1;clear r1;cases rr with
 | cons r1 w1 =>
  cases w1 with
  | cons r2 w2 =>
   cases w2;cases r1;cases r2;refine WM p1 p2 fun h' st hsz hk=>?_
   refine wpAny_pyIter_zip (s:={ s1 with heap:=h' }) st.z ?_;refine ⟨s1.heap.objs.size+4,[(s1.heap.objs.size+4),(s1.heap.objs.size+2),(s1.heap.objs.size+3),s1.heap.objs.size,(s1.heap.objs.size+1)],fun i h=>Zst2 h s1.heap.objs.size a1 a2 b1 b2 i .none,dN X.K a1 a2 b1 b2,H1,rfl,I1.kept (t':=s1.toks) hk,VI s1.heap.objs.size a1 a2 b1 b2 hl1 hl2,st,fun b hb=>?_,q⟩;have hb':s1.heap.objs.size<=b:=(mO (I:=s1.heap.objs.size) hb).1;exact I1.fpOk hb' (I1.hok.fresh hb')
end
abbrev Qc (h:Heap) (T:Addr) (v1 v2 v3:Value):Prop:=h.get? T=some { cls:=.type "tuple", data:=.seq #[v1,v2,v3] }
section
variable {prog:Program} {w:World} {A:Around} {E:Value->Shared->Prop} {s:Shared}
theorem LY (a b c:Value):checkTypeCall "zip" ⟨[a,b,c],[]⟩=pure ():=by kernel_rfl
theorem NQ (a b c:Value):checkBuiltinCall "zip.__new__" ⟨[.type "zip", a,b,c],[]⟩=pure ():=by kernel_rfl
theorem JJ (a b c d:Value):argsOk "object.__init__" ⟨[a,b,c,d],[]⟩:=by
 unfold argsOk;rw [signature?_of (id := "object.__init__") (n:=['_','_','t','i','n','i','_','_']) (o:=['t','c','e','j','b','o']) (by kernel_rfl) F.owner_object];kernel_rfl
theorem Wi {T:Addr} {v1 v2 v3 x:Value} {Q:Unit->Shared->Prop} (hT:Qc s.heap T v1 v2 v3) (h:∀ h',Qc h' T x v2 v3->Heap.SameBut T s.heap h'->Q () { s with heap:=h' }):wpAny (model prog w) A (updateSeq T (·.setIfInBounds 0 x)) Q E s:=by
 refine wpAny_updateSeq hT rfl (h _ ?_ (Heap.SameBut.update ..));show Heap.get? _ _=_;rw [Heap.get?_update_self _ hT rfl];simp [Obj.mapSeq]
theorem Wh {T:Addr} {v1 v2 v3 x:Value} {Q:Unit->Shared->Prop} (hT:Qc s.heap T v1 v2 v3) (h:∀ h',Qc h' T v1 x v3->Heap.SameBut T s.heap h'->Q () { s with heap:=h' }):wpAny (model prog w) A (updateSeq T (·.setIfInBounds 1 x)) Q E s:=by
 refine wpAny_updateSeq hT rfl (h _ ?_ (Heap.SameBut.update ..));show Heap.get? _ _=_;rw [Heap.get?_update_self _ hT rfl];simp [Obj.mapSeq]
theorem gV {T:Addr} {v1 v2 v3 x:Value} {Q:Unit->Shared->Prop} (hT:Qc s.heap T v1 v2 v3) (h:∀ h',Qc h' T v1 v2 x->Heap.SameBut T s.heap h'->Q () { s with heap:=h' }):wpAny (model prog w) A (updateSeq T (·.setIfInBounds 2 x)) Q E s:=by
 refine wpAny_updateSeq hT rfl (h _ ?_ (Heap.SameBut.update ..));show Heap.get? _ _=_;rw [Heap.get?_update_self _ hT rfl];simp [Obj.mapSeq]
structure Zst3 (h:Heap) (I:Nat) (l1 l2 l3:Nat) (b1 b2 b3:Bool) (i:Nat) (f0:Value):Prop where
 z:IsZip h (I+5) (I+3) (I+4) f0
 ti:Qc h (I+3) (.ref I) (.ref (I+1)) (.ref (I+2))
 to:∃ v1 v2 v3,Qc h (I+4) v1 v2 v3
 s1:Fk h I l1 i b1
 s2:Fk h (I+1) l2 i b2
 s3:Fk h (I+2) l3 i b3
theorem Zst3.at {h h':Heap} {I l1 l2 l3:Nat} {b1 b2 b3:Bool} {i:Nat} {f0:Value} (x:Zst3 h I l1 l2 l3 b1 b2 b3 i f0) (k:∀ (c:Nat) o,I<=c->c < I+6->h.get? c=some o->h'.get? c=some o):Zst3 h' I l1 l2 l3 b1 b2 b3 i f0:=
 ⟨k _ _ (by omega) (by omega) x.z,k _ _ (by omega) (by omega) x.ti,let ⟨v1,v2,v3,e⟩:=x.to;⟨v1,v2,v3,k _ _ (by omega) (by omega) e⟩,x.s1.at fun o e=>k _ o (by omega) (by omega) e,x.s2.at fun o e=>k _ o (by omega) (by omega) e,x.s3.at fun o e=>k _ o (by omega) (by omega) e⟩
theorem VE {I l1 l2 l3:Nat} {b1 b2 b3:Bool} {i:Nat} {xs1 xs2 xs3:Array Value} {y1 y2 y3:Value} {Q:Value->Shared->Prop} (hz:Zst3 s.heap I l1 l2 l3 b1 b2 b3 i .none) (hl1:FV s.heap l1 xs1 b1) (lt1:l1 < I) (hl2:FV s.heap l2 xs2 b2) (lt2:l2 < I) (hl3:FV s.heap l3 xs3 b3) (lt3:l3 < I) (hx1:xs1[i]?=some y1) (hx2:xs2[i]?=some y2) (hx3:xs3[i]?=some y3)
    (hQ:∀ h',Zst3 h' I l1 l2 l3 b1 b2 b3 (i+1) (rawInt s.heap.objs.size)->Qc h' s.heap.objs.size y1 y2 y3->h'.objs.size=s.heap.objs.size+1->(∀ (c:Nat) o,(c < I\/I+6<=c)->s.heap.get? c=some o->h'.get? c=some o)->Q (.ref s.heap.objs.size) { s with heap:=h' }) :
    wpAny (model prog w) A (Builtin.«zip.__next__» ⟨[.ref (I+5)],[]⟩) (fun fin s'=>∃ v,fin=.done (.ret v)/\Q v s') E s:=by
  obtain ⟨z0,ti0,⟨v1,v2,v3,to0⟩,s10,s20,s30⟩:=hz;show wpAny _ _ (field (.ref (I+5)) 2 >>= _) _ _ _;refine wpAny_bind (wpAny_field z0 rfl (x:=.bool false) rfl ?_);show wpAny _ _ (field (.ref (I+5)) 3 >>= _) _ _ _;refine wpAny_bind (wpAny_field z0 rfl (x:=.ref (I+3)) rfl ?_);refine wpAny_bind (wpAny_seqItems ti0 rfl ?_);show wpAny _ _ (Builtin.SmallTypes.ownedTupleIsFree (.ref (I+5)) >>= _) _ _ _;refine wpAny_bind ?_;unfold Builtin.SmallTypes.ownedTupleIsFree;refine wpAny_bind (wpAny_field z0 rfl (x:=.none) rfl (wpAny_pure ?_));simp only [if_true];refine wpAny_bind (wpAny_rule ?_);refine wpAny_bind (wpAny_field z0 rfl (x:=.ref (I+4)) rfl ?_);refine wpAny_bind (wpAny_setField_rec z0 (by simp) fun h₁ hz₁ hs₁=>?_);replace hz₁:IsZip h₁ (I+5) (I+3) (I+4) .ellipsis:=hz₁;refine wpAny_bind ?_;simp only [List.zipIdx_cons,List.zipIdx_nil,List.forIn_cons,List.forIn_nil];have g0:∀ (c:Nat) o,c≠(I+5)->s.heap.get? c=some o->h₁.get? c=some o:=fun c o c1 e=>hs₁.extBut _ _ c1 e
  have k0:∀ (c:Nat) o,c≠(I+5)->c≠(I+4)->(c < I\/I<=c)->s.heap.get? c=some o->h₁.get? c=some o:=fun c o c1 _ _ e=>g0 c o c1 e
  have to1:Qc h₁ (I+4) v1 v2 v3:=g0 _ _ (by omega) to0;refine wpAny_bind (wpAny_bind (wpAny_onRaise ?_));show wpAny _ _ (Builtin.SmallTypes.nextOf (.ref I) >>= _) _ _ _;refine wpAny_bind (Ec (s10.at fun o e=>k0 _ o (by omega) (by omega) (by omega) e) (hl1.at fun o e=>k0 _ o (by omega) (by omega) (by omega) e) hx1 fun p1 si1 sp1=>wpAny_pure ?_);have u1:Qc p1 (I+4) v1 v2 v3:=sp1.extBut _ _ (Cb (by omega)) to1;refine wpAny_bind (wpAny_seqItems u1 rfl ?_);refine wpAny_bind (Wi u1 fun q1 to2 sq1=>?_);have k1:∀ (c:Nat) o,c≠(I+5)->c≠(I+4)->(c < I\/I+1<=c)->s.heap.get? c=some o->q1.get? c=some o:=fun c o c1 c2 c3 e=>sq1.extBut _ _ c2 (sp1.extBut _ _ (Cb (by omega)) (k0 c o c1 c2 (by omega) e))
  have zz1:IsZip q1 (I+5) (I+3) (I+4) .ellipsis:=sq1.extBut _ _ (Cb (by omega)) (sp1.extBut _ _ (Cb (by omega)) hz₁);have w1_1:Fk q1 I l1 (i+1) b1:=si1.at fun o e=>sq1.extBut _ _ (Cb (by omega)) e
  refine wpAny_bind (wpAny_letGo (wpAny_pure ?_));refine wpAny_bind (wpAny_bind (wpAny_onRaise ?_));show wpAny _ _ (Builtin.SmallTypes.nextOf (.ref (I+1)) >>= _) _ _ _;refine wpAny_bind (Ec (s20.at fun o e=>k1 _ o (by omega) (by omega) (by omega) e) (hl2.at fun o e=>k1 _ o (by omega) (by omega) (by omega) e) hx2 fun p2 si2 sp2=>wpAny_pure ?_);have u2:Qc p2 (I+4) y1 v2 v3:=sp2.extBut _ _ (Cb (by omega)) to2;refine wpAny_bind (wpAny_seqItems u2 rfl ?_);refine wpAny_bind (Wh u2 fun q2 to3 sq2=>?_);have k2:∀ (c:Nat) o,c≠(I+5)->c≠(I+4)->(c < I\/I+2<=c)->s.heap.get? c=some o->q2.get? c=some o:=fun c o c1 c2 c3 e=>sq2.extBut _ _ c2 (sp2.extBut _ _ (Cb (by omega)) (k1 c o c1 c2 (by omega) e))
  have zz2:IsZip q2 (I+5) (I+3) (I+4) .ellipsis:=sq2.extBut _ _ (Cb (by omega)) (sp2.extBut _ _ (Cb (by omega)) zz1);have w2_2:Fk q2 (I+1) l2 (i+1) b2:=si2.at fun o e=>sq2.extBut _ _ (Cb (by omega)) e
  have w1_2:Fk q2 I l1 (i+1) b1:=w1_1.at fun o e=>sq2.extBut _ _ (Cb (by omega)) (sp2.extBut _ _ (Cb (by omega)) e)
  refine wpAny_bind (wpAny_letGo (wpAny_pure ?_));refine wpAny_bind (wpAny_bind (wpAny_onRaise ?_));show wpAny _ _ (Builtin.SmallTypes.nextOf (.ref (I+2)) >>= _) _ _ _;refine wpAny_bind (Ec (s30.at fun o e=>k2 _ o (by omega) (by omega) (by omega) e) (hl3.at fun o e=>k2 _ o (by omega) (by omega) (by omega) e) hx3 fun p3 si3 sp3=>wpAny_pure ?_);have u3:Qc p3 (I+4) y1 y2 v3:=sp3.extBut _ _ (Cb (by omega)) to3;refine wpAny_bind (wpAny_seqItems u3 rfl ?_);refine wpAny_bind (gV u3 fun q3 to4 sq3=>?_);have k3:∀ (c:Nat) o,c≠(I+5)->c≠(I+4)->(c < I\/I+3<=c)->s.heap.get? c=some o->q3.get? c=some o:=fun c o c1 c2 c3 e=>sq3.extBut _ _ c2 (sp3.extBut _ _ (Cb (by omega)) (k2 c o c1 c2 (by omega) e))
  have zz3:IsZip q3 (I+5) (I+3) (I+4) .ellipsis:=sq3.extBut _ _ (Cb (by omega)) (sp3.extBut _ _ (Cb (by omega)) zz2);have w3_3:Fk q3 (I+2) l3 (i+1) b3:=si3.at fun o e=>sq3.extBut _ _ (Cb (by omega)) e
  have w1_3:Fk q3 I l1 (i+1) b1:=w1_2.at fun o e=>sq3.extBut _ _ (Cb (by omega)) (sp3.extBut _ _ (Cb (by omega)) e)
  have w2_3:Fk q3 (I+1) l2 (i+1) b2:=w2_2.at fun o e=>sq3.extBut _ _ (Cb (by omega)) (sp3.extBut _ _ (Cb (by omega)) e)
  refine wpAny_bind (wpAny_letGo (wpAny_pure (wpAny_pure ?_)));refine wpAny_bind (wpAny_seqItems to4 rfl ?_);refine wpAny_bind (wpAny_newTuple ?_);have hsz:q3.objs.size=s.heap.objs.size:=by rw [sq3.1,sp3.1,sq2.1,sp2.1,sq1.1,sp1.1,hs₁.1]
  have zlt:(I+5) < q3.objs.size:=Heap.lt_size zz3;show wpAny _ _ (Builtin.SmallTypes.ownedTupleHandOut (.ref (I+5)) (.ref q3.objs.size) >>= _) _ _ _;refine wpAny_bind ?_;unfold Builtin.SmallTypes.ownedTupleHandOut
  have z6:IsZip (q3.push { cls:=.type "tuple", data:=.seq #[y1,y2,y3] }) (I+5) (I+3) (I+4) .ellipsis:=Heap.get?_push_of_some _ zz3
  refine wpAny_bind (wpAny_setField_rec z6 (by simp) fun h₇ hz₇ hs₇=>?_);replace hz₇:IsZip h₇ (I+5) (I+3) (I+4) (rawInt q3.objs.size):=hz₇;refine wpAny_setField_rec hz₇ (by simp) fun h₈ hz₈ hs₈=>?_
  replace hz₈:IsZip h₈ (I+5) (I+3) (I+4) (rawInt q3.objs.size):=hz₈;have up:∀ (c:Nat) o,c≠(I+5)->q3.get? c=some o->h₈.get? c=some o:=fun c o c1 e=>hs₈.extBut _ _ c1 (hs₇.extBut _ _ c1 (Heap.get?_push_of_some _ e))
  have hT₈:Qc h₈ q3.objs.size y1 y2 y3:=hs₈.extBut _ _ (Cb (by omega)) (hs₇.extBut _ _ (Cb (by omega)) (Heap.get?_push_size _ rfl));have hz8:h₈.objs.size=q3.objs.size+1:=by rw [hs₈.1,hs₇.1,Heap.size_push]
  rw [hsz] at hz₈ hT₈ hz8;refine wpAny_pure ⟨_,rfl,?_⟩;show Q (.ref q3.objs.size) _;rw [hsz];exact hQ h₈ ⟨hz₈,up _ _ (by omega) (k3 _ _ (by omega) (by omega) (by omega) ti0),⟨y1,y2,y3,up _ _ (by omega) to4⟩,w1_3.at fun o e=>up _ o (by omega) e,w2_3.at fun o e=>up _ o (by omega) e,w3_3.at fun o e=>up _ o (by omega) e⟩ hT₈ hz8 fun c o hc e=>up c o (by omega) (k3 c o (by omega) (by omega) (by omega) e)
theorem Wb {I l1 l2 l3:Nat} {b1 b2 b3:Bool} {i:Nat} {xs1 xs2 xs3:Array Value} {Q:Fin->Shared->Prop} (hh:A.handled=none) (hz:Zst3 s.heap I l1 l2 l3 b1 b2 b3 i .none) (hl1:FV s.heap l1 xs1 b1) (lt1:l1 < I) (hl2:FV s.heap l2 xs2 b2) (lt2:l2 < I) (hl3:FV s.heap l3 xs3 b3) (lt3:l3 < I) (hend:xs1[i]?=none\/xs2[i]?=none\/xs3[i]?=none)
    (hE:∀ h' e,(∀ (c:Nat) o,(c < I\/I+6<=c)->s.heap.get? c=some o->h'.get? c=some o)->(∃ o,h'.get? e=some o/\o.cls=.type "StopIteration")->E (.ref e) { s with heap:=h' }) :
    wpAny (model prog w) A (Builtin.«zip.__next__» ⟨[.ref (I+5)],[]⟩) Q E s:=by
  obtain ⟨z0,ti0,⟨v1,v2,v3,to0⟩,s10,s20,s30⟩:=hz;show wpAny _ _ (field (.ref (I+5)) 2 >>= _) _ _ _;refine wpAny_bind (wpAny_field z0 rfl (x:=.bool false) rfl ?_);show wpAny _ _ (field (.ref (I+5)) 3 >>= _) _ _ _;refine wpAny_bind (wpAny_field z0 rfl (x:=.ref (I+3)) rfl ?_);refine wpAny_bind (wpAny_seqItems ti0 rfl ?_);show wpAny _ _ (Builtin.SmallTypes.ownedTupleIsFree (.ref (I+5)) >>= _) _ _ _;refine wpAny_bind ?_;unfold Builtin.SmallTypes.ownedTupleIsFree;refine wpAny_bind (wpAny_field z0 rfl (x:=.none) rfl (wpAny_pure ?_));simp only [if_true];refine wpAny_bind (wpAny_rule ?_);refine wpAny_bind (wpAny_field z0 rfl (x:=.ref (I+4)) rfl ?_);refine wpAny_bind (wpAny_setField_rec z0 (by simp) fun h₁ hz₁ hs₁=>?_);replace hz₁:IsZip h₁ (I+5) (I+3) (I+4) .ellipsis:=hz₁;refine wpAny_bind ?_;simp only [List.zipIdx_cons,List.zipIdx_nil,List.forIn_cons,List.forIn_nil];have g0:∀ (c:Nat) o,c≠(I+5)->s.heap.get? c=some o->h₁.get? c=some o:=fun c o c1 e=>hs₁.extBut _ _ c1 e
  have k0:∀ (c:Nat) o,c≠(I+5)->c≠(I+4)->(c < I\/I<=c)->s.heap.get? c=some o->h₁.get? c=some o:=fun c o c1 _ _ e=>g0 c o c1 e
  have to1:Qc h₁ (I+4) v1 v2 v3:=g0 _ _ (by omega) to0;have zz0:IsZip h₁ (I+5) (I+3) (I+4) .ellipsis:=hz₁;refine wpAny_bind (wpAny_bind (wpAny_onRaise ?_));show wpAny _ _ (Builtin.SmallTypes.nextOf (.ref I) >>= _) _ _ _;cases hx1:xs1[i]? with
  | none =>
    refine wpAny_bind (Jq hh (s10.at fun o e=>k0 _ o (by omega) (by omega) (by omega) e) (hl1.at fun o e=>k0 _ o (by omega) (by omega) (by omega) e) hx1 fun h₂ e hs₂ he=>?_);obtain ⟨oe,hoe,hce⟩:=he;have hz₂:IsZip h₂ (I+5) (I+3) (I+4) .ellipsis:=hs₂ _ _ (Cb (by omega)) zz0;have hez:e≠(I+5):=fun x=>by subst x;rw [hz₂] at hoe;cases hoe;simp at hce
    exact wpAny_setField_rec hz₂ (by simp) fun h₃ _ hs₃=>hE h₃ e (fun c o hc x=>hs₃.extBut _ _ (Cb (by omega)) (hs₂ _ _ (Cb (by omega)) (k0 c o (by omega) (by omega) (by omega) x))) ⟨oe,hs₃.extBut _ _ hez hoe,hce⟩
  | some y1 =>
    refine wpAny_bind (Ec (s10.at fun o e=>k0 _ o (by omega) (by omega) (by omega) e) (hl1.at fun o e=>k0 _ o (by omega) (by omega) (by omega) e) hx1 fun p1 si1 sp1=>wpAny_pure ?_);have u1:Qc p1 (I+4) v1 v2 v3:=sp1.extBut _ _ (Cb (by omega)) to1;refine wpAny_bind (wpAny_seqItems u1 rfl ?_);refine wpAny_bind (Wi u1 fun q1 to2 sq1=>?_);have k1:∀ (c:Nat) o,c≠(I+5)->c≠(I+4)->(c < I\/I+1<=c)->s.heap.get? c=some o->q1.get? c=some o:=fun c o c1 c2 c3 e=>sq1.extBut _ _ c2 (sp1.extBut _ _ (Cb (by omega)) (k0 c o c1 c2 (by omega) e))
    have zz1:IsZip q1 (I+5) (I+3) (I+4) .ellipsis:=sq1.extBut _ _ (Cb (by omega)) (sp1.extBut _ _ (Cb (by omega)) zz0);refine wpAny_bind (wpAny_letGo (wpAny_pure ?_));refine wpAny_bind (wpAny_bind (wpAny_onRaise ?_));show wpAny _ _ (Builtin.SmallTypes.nextOf (.ref (I+1)) >>= _) _ _ _;cases hx2:xs2[i]? with
    | none =>
      refine wpAny_bind (Jq hh (s20.at fun o e=>k1 _ o (by omega) (by omega) (by omega) e) (hl2.at fun o e=>k1 _ o (by omega) (by omega) (by omega) e) hx2 fun h₂ e hs₂ he=>?_);obtain ⟨oe,hoe,hce⟩:=he;have hz₂:IsZip h₂ (I+5) (I+3) (I+4) .ellipsis:=hs₂ _ _ (Cb (by omega)) zz1;have hez:e≠(I+5):=fun x=>by subst x;rw [hz₂] at hoe;cases hoe;simp at hce
      exact wpAny_setField_rec hz₂ (by simp) fun h₃ _ hs₃=>hE h₃ e (fun c o hc x=>hs₃.extBut _ _ (Cb (by omega)) (hs₂ _ _ (Cb (by omega)) (k1 c o (by omega) (by omega) (by omega) x))) ⟨oe,hs₃.extBut _ _ hez hoe,hce⟩
    | some y2 =>
      refine wpAny_bind (Ec (s20.at fun o e=>k1 _ o (by omega) (by omega) (by omega) e) (hl2.at fun o e=>k1 _ o (by omega) (by omega) (by omega) e) hx2 fun p2 si2 sp2=>wpAny_pure ?_);have u2:Qc p2 (I+4) y1 v2 v3:=sp2.extBut _ _ (Cb (by omega)) to2;refine wpAny_bind (wpAny_seqItems u2 rfl ?_);refine wpAny_bind (Wh u2 fun q2 to3 sq2=>?_);have k2:∀ (c:Nat) o,c≠(I+5)->c≠(I+4)->(c < I\/I+2<=c)->s.heap.get? c=some o->q2.get? c=some o:=fun c o c1 c2 c3 e=>sq2.extBut _ _ c2 (sp2.extBut _ _ (Cb (by omega)) (k1 c o c1 c2 (by omega) e))
      have zz2:IsZip q2 (I+5) (I+3) (I+4) .ellipsis:=sq2.extBut _ _ (Cb (by omega)) (sp2.extBut _ _ (Cb (by omega)) zz1);refine wpAny_bind (wpAny_letGo (wpAny_pure ?_));refine wpAny_bind (wpAny_bind (wpAny_onRaise ?_));show wpAny _ _ (Builtin.SmallTypes.nextOf (.ref (I+2)) >>= _) _ _ _;cases hx3:xs3[i]? with
      | none =>
        refine wpAny_bind (Jq hh (s30.at fun o e=>k2 _ o (by omega) (by omega) (by omega) e) (hl3.at fun o e=>k2 _ o (by omega) (by omega) (by omega) e) hx3 fun h₂ e hs₂ he=>?_);obtain ⟨oe,hoe,hce⟩:=he;have hz₂:IsZip h₂ (I+5) (I+3) (I+4) .ellipsis:=hs₂ _ _ (Cb (by omega)) zz2;have hez:e≠(I+5):=fun x=>by subst x;rw [hz₂] at hoe;cases hoe;simp at hce
        exact wpAny_setField_rec hz₂ (by simp) fun h₃ _ hs₃=>hE h₃ e (fun c o hc x=>hs₃.extBut _ _ (Cb (by omega)) (hs₂ _ _ (Cb (by omega)) (k2 c o (by omega) (by omega) (by omega) x))) ⟨oe,hs₃.extBut _ _ hez hoe,hce⟩
      | some y3 =>
        simp [hx1,hx2,hx3] at hend
theorem Ju {I l1 l2 l3:Nat} {b1 b2 b3:Bool} {i:Nat} {xs1 xs2 xs3:Array Value} {y1 y2 y3:Value} {Q:Option Value->Shared->Prop} (hz:Zst3 s.heap I l1 l2 l3 b1 b2 b3 i .none) (hl1:FV s.heap l1 xs1 b1) (lt1:l1 < I) (hl2:FV s.heap l2 xs2 b2) (lt2:l2 < I) (hl3:FV s.heap l3 xs3 b3) (lt3:l3 < I) (hx1:xs1[i]?=some y1) (hx2:xs2[i]?=some y2) (hx3:xs3[i]?=some y3)
    (hQ:∀ h',Zst3 h' I l1 l2 l3 b1 b2 b3 (i+1) (rawInt s.heap.objs.size)->Qc h' s.heap.objs.size y1 y2 y3->h'.objs.size=s.heap.objs.size+1->(∀ (c:Nat) o,(c < I\/I+6<=c)->s.heap.get? c=some o->h'.get? c=some o)->Q (some (.ref s.heap.objs.size)) { s with heap:=h' }) :
    wpAny (model prog w) A (pyNext (.ref (I+5))) Q E s:=by
  have hT:s.TypeIs (.ref (I+5)) "zip" := ⟨_,hz.z,rfl⟩
  unfold pyNext
  exact wpAny_bind (wpAny_attempt (wpAny_callSpecial?_slot (name:=Str.ofString "__next__") hT F.slot_zip_next
    (wpAny_call_entry F.slot_zip_next hT F.entry_zip_next (VE hz hl1 lt1 hl2 lt2 hl3 lt3 hx1 hx2 hx3 fun h' a1 a2 a3 a4=>wpAny_pure (hQ h' a1 a2 a3 a4)) (F.args_zip_next_1 _))))
theorem Kg {I l1 l2 l3:Nat} {b1 b2 b3:Bool} {i:Nat} {xs1 xs2 xs3:Array Value} {Q:Option Value->Shared->Prop} (hh:A.handled=none) (hz:Zst3 s.heap I l1 l2 l3 b1 b2 b3 i .none) (hl1:FV s.heap l1 xs1 b1) (lt1:l1 < I) (hl2:FV s.heap l2 xs2 b2) (lt2:l2 < I) (hl3:FV s.heap l3 xs3 b3) (lt3:l3 < I) (hend:xs1[i]?=none\/xs2[i]?=none\/xs3[i]?=none)
    (hQ:∀ h',(∀ (c:Nat) o,(c < I\/I+6<=c)->s.heap.get? c=some o->h'.get? c=some o)->Q none { s with heap:=h' }) :
    wpAny (model prog w) A (pyNext (.ref (I+5))) Q E s:=by
  have hT:s.TypeIs (.ref (I+5)) "zip" := ⟨_,hz.z,rfl⟩
  unfold pyNext
  refine wpAny_bind (wpAny_attempt (wpAny_callSpecial?_slot (name:=Str.ofString "__next__") hT F.slot_zip_next
    (wpAny_call_entry F.slot_zip_next hT F.entry_zip_next (Wb hh hz hl1 lt1 hl2 lt2 hl3 lt3 hend fun h' e hk he=>?_) (F.args_zip_next_1 _))))
  obtain ⟨o,ho,hc⟩:=he
  refine wpAny_bind (wpAny_isInstance (T := "StopIteration") (b:=true) ⟨o,ho,hc⟩ isSubtype_stop ?_)
  exact wpAny_pure (hQ _ hk)
abbrev Nf (h:Heap) (l1 l2 l3:Nat) (b1 b2 b3:Bool):Heap:=h.push (MJ l1 b1)
abbrev Nd (h:Heap) (l1 l2 l3:Nat) (b1 b2 b3:Bool):Heap:=(Nf h l1 l2 l3 b1 b2 b3).push (MJ l2 b2)
abbrev Tf (h:Heap) (l1 l2 l3:Nat) (b1 b2 b3:Bool):Heap:=(Nd h l1 l2 l3 b1 b2 b3).push (MJ l3 b3)
abbrev Te (h:Heap) (l1 l2 l3:Nat) (b1 b2 b3:Bool):Heap:=(Tf h l1 l2 l3 b1 b2 b3).push { cls:=.type "tuple", data:=.seq #[.ref h.objs.size,.ref (Nf h l1 l2 l3 b1 b2 b3).objs.size,.ref (Nd h l1 l2 l3 b1 b2 b3).objs.size] }
abbrev Td (h:Heap) (l1 l2 l3:Nat) (b1 b2 b3:Bool):Heap:=(Te h l1 l2 l3 b1 b2 b3).push { cls:=.type "tuple", data:=.seq #[.none,.none,.none] }
abbrev KO (h:Heap) (l1 l2 l3:Nat) (b1 b2 b3:Bool):Heap:=(Td h l1 l2 l3 b1 b2 b3).push { cls:=.type "zip", data:=.fields #[.none,.bool false,.bool false,.ref (Tf h l1 l2 l3 b1 b2 b3).objs.size,.ref (Te h l1 l2 l3 b1 b2 b3).objs.size] }
theorem Sv (l1 l2 l3:Nat) (b1 b2 b3:Bool) (xs1 xs2 xs3:Array Value) :
    Meets (Builtin.«zip.__new__» ⟨[.type "zip", .ref l1,.ref l2,.ref l3],[]⟩) (fun _ R s=>FV s.heap l1 xs1 b1/\FV s.heap l2 xs2 b2/\FV s.heap l3 xs3 b3 /\
      R (.ok (.ret (.ref (Td s.heap l1 l2 l3 b1 b2 b3).objs.size))) { s with heap:=KO s.heap l1 l2 l3 b1 b2 b3 }):=
  .of_wp fun prog w A R s h=>by
    obtain ⟨hp,g,d,tk,os⟩:=s;obtain ⟨hl1,hl2,hl3,h⟩:=h;have hsub:=sub_zip;have hL1:FV (Shared.heap ⟨hp,g,d,tk,os⟩) l1 xs1 b1:=hl1.at fun o e=>e
    have hL2:FV (Shared.heap ⟨(Nf hp l1 l2 l3 b1 b2 b3),g,d,tk,os⟩) l2 xs2 b2:=hl2.at fun o e=>Heap.get?_push_of_some _ e
    have hL3:FV (Shared.heap ⟨(Nd hp l1 l2 l3 b1 b2 b3),g,d,tk,os⟩) l3 xs3 b3:=hl3.at fun o e=>Heap.get?_push_of_some _ (Heap.get?_push_of_some _ e)
    wp_walk using Fs hL1,Fs hL2,Fs hL3
    exact ⟨_,rfl,h⟩
theorem WL {l1 l2 l3:Nat} {b1 b2 b3:Bool} {xs1 xs2 xs3:Array Value} {Q:Value->Shared->Prop} (hl1:FV s.heap l1 xs1 b1) (hl2:FV s.heap l2 xs2 b2) (hl3:FV s.heap l3 xs3 b3)
    (h:∀ h',Zst3 h' s.heap.objs.size l1 l2 l3 b1 b2 b3 0 .none->h'.objs.size=s.heap.objs.size+6->(∀ (c:Nat) o,s.heap.get? c=some o->h'.get? c=some o)->Q (.ref (s.heap.objs.size+5)) { s with heap:=h' }) :
    wpAny (model prog w) A (call (.type "zip") [.ref l1,.ref l2,.ref l3]) Q E s:=by
  refine callType_new F.called_zip (by decide) (LY _ _ _) (NQ _ _ _) (fun obj=>JJ obj _ _ _) F.entry_zip_new (Sv l1 l2 l3 b1 b2 b3 xs1 xs2 xs3) ⟨hl1,hl2,hl3,?_⟩;have z1:(Nf s.heap l1 l2 l3 b1 b2 b3).objs.size=s.heap.objs.size+1:=by exact Heap.size_push ..
  have z2:(Nd s.heap l1 l2 l3 b1 b2 b3).objs.size=s.heap.objs.size+2:=by rw [Heap.size_push,z1]
  have z3:(Tf s.heap l1 l2 l3 b1 b2 b3).objs.size=s.heap.objs.size+3:=by rw [Heap.size_push,z2]
  have z4:(Te s.heap l1 l2 l3 b1 b2 b3).objs.size=s.heap.objs.size+4:=by rw [Heap.size_push,z3]
  have z5:(Td s.heap l1 l2 l3 b1 b2 b3).objs.size=s.heap.objs.size+5:=by rw [Heap.size_push,z4]
  have z6:(KO s.heap l1 l2 l3 b1 b2 b3).objs.size=s.heap.objs.size+6:=by rw [Heap.size_push,z5]
  have gz:(KO s.heap l1 l2 l3 b1 b2 b3).get? (Td s.heap l1 l2 l3 b1 b2 b3).objs.size=some _:=Heap.get?_push_size _ rfl;have gto:(KO s.heap l1 l2 l3 b1 b2 b3).get? (Te s.heap l1 l2 l3 b1 b2 b3).objs.size=some _:=(Heap.get?_push_of_some _ (Heap.get?_push_size _ rfl));have gti:(KO s.heap l1 l2 l3 b1 b2 b3).get? (Tf s.heap l1 l2 l3 b1 b2 b3).objs.size=some _:=(Heap.get?_push_of_some _ (Heap.get?_push_of_some _ (Heap.get?_push_size _ rfl)));have gs1:Fk (KO s.heap l1 l2 l3 b1 b2 b3) s.heap.objs.size l1 0 b1:=Fk.at (Fk.new (h:=s.heap)) fun o e=>(Heap.get?_push_of_some _ (Heap.get?_push_of_some _ (Heap.get?_push_of_some _ (Heap.get?_push_of_some _ (Heap.get?_push_of_some _ e)))))
  have gs2:Fk (KO s.heap l1 l2 l3 b1 b2 b3) (Nf s.heap l1 l2 l3 b1 b2 b3).objs.size l2 0 b2:=Fk.at (Fk.new (h:=(Nf s.heap l1 l2 l3 b1 b2 b3))) fun o e=>(Heap.get?_push_of_some _ (Heap.get?_push_of_some _ (Heap.get?_push_of_some _ (Heap.get?_push_of_some _ e))))
  have gs3:Fk (KO s.heap l1 l2 l3 b1 b2 b3) (Nd s.heap l1 l2 l3 b1 b2 b3).objs.size l3 0 b3:=Fk.at (Fk.new (h:=(Nd s.heap l1 l2 l3 b1 b2 b3))) fun o e=>(Heap.get?_push_of_some _ (Heap.get?_push_of_some _ (Heap.get?_push_of_some _ e)))
  show _/\_;rw [z3,z4,z5] at gz;rw [z4] at gto;rw [z1,z2,z3] at gti;rw [z1] at gs2;rw [z2] at gs3;rw [z5];exact ⟨⟨_,gz,rfl⟩,h _ ⟨gz,gti,⟨_,_,_,gto⟩,gs1,gs2,gs3⟩ z6 fun c o x=>(Heap.get?_push_of_some _ (Heap.get?_push_of_some _ (Heap.get?_push_of_some _ (Heap.get?_push_of_some _ (Heap.get?_push_of_some _ (Heap.get?_push_of_some _ x))))))⟩
end
theorem eR {I b:Nat} (h:¬ b∈([(I+5),(I+3),(I+4),I,(I+1),(I+2)]:List Nat)):b < I\/I+6<=b:=by simp only [List.mem_cons,List.not_mem_nil,or_false,not_or] at h;omega
theorem mN {I b:Nat} (h:b∈([(I+5),(I+3),(I+4),I,(I+1),(I+2)]:List Nat)):I<=b/\b < I+6:=by simp only [List.mem_cons,List.not_mem_nil,or_false] at h;omega
def dM (K:W.Frag) (a1 a2 a3:Nat) (b1 b2 b3:Bool):It:=
 ⟨fun i H=>∃ xs1 xs2 xs3 y1 y2 y3,II K H a1 xs1 b1/\xs1[i]?=some y1/\II K H a2 xs2 b2/\xs2[i]?=some y2/\II K H a3 xs3 b3/\xs3[i]?=some y3,fun i H x H'=>∃ p y1 y2 y3,H p=none/\x=.ref p/\H'=upd H p (.tup [y1,y2,y3])/\(∀ xs,II K H a1 xs b1->xs[i]?=some y1)/\(∀ xs,II K H a2 xs b2->xs[i]?=some y2)/\(∀ xs,II K H a3 xs b3->xs[i]?=some y3),fun i H=>∃ xs1 xs2 xs3,II K H a1 xs1 b1/\II K H a2 xs2 b2/\II K H a3 xs3 b3/\(xs1.length<=i\/xs2.length<=i\/xs3.length<=i)⟩
theorem VH {P:Program} {w:World} {K:W.Frag} {elts:List Expr} {x1} {pos:Pos} (I a1 a2 a3:Nat) (b1 b2 b3:Bool) (lt1:a1 < I) (lt2:a2 < I) (lt3:a3 < I):Turn P w K (.Tuple elts x1 pos) (dM K a1 a2 a3 b1 b2 b3) [(I+5),(I+3),(I+4),I,(I+1),(I+2)] (I+5) (fun i h=>Zst3 h I a1 a2 a3 b1 b2 b3 i .none) where
 mem:=by simp
 obj:=fun i h st b hb=>by
  obtain ⟨z0,ti0,⟨v1,v2,v3,to0⟩,s10,s20,s30⟩:=st;simp only [List.mem_cons,List.not_mem_nil,or_false] at hb;rcases hb with rfl | rfl | rfl | rfl | rfl | rfl
  ·exact ⟨_,z0,fun v z=>by cases z⟩
  ·exact ⟨_,ti0,fun v z=>by cases z⟩
  ·exact ⟨_,to0,fun v z=>by cases z⟩
  ·exact s10.obj
  ·exact s20.obj
  ·exact s30.obj
 keep:=fun i h h' st k=>st.at fun c o c1 c2 e=>k c (by show c∈([(I+5),(I+3),(I+4),I,(I+1),(I+2)]:List Nat);simp only [List.mem_cons,List.not_mem_nil,or_false];omega) o e
 item:=by
  intro X hP hw hK hc i pins s σ H E I1 hf st hg;subst hP hw hK;obtain ⟨ws1,ws2,ws3,y1,y2,y3,hq1,hy1,hq2,hy2,hq3,hy3⟩:=hg;obtain ⟨its1,rv1,p1,hl1⟩:=I1.sqB hq1;obtain ⟨u1,hu1,ru1⟩:=rv1.get hy1;obtain ⟨its2,rv2,p2,hl2⟩:=I1.sqB hq2;obtain ⟨u2,hu2,ru2⟩:=rv2.get hy2;obtain ⟨its3,rv3,p3,hl3⟩:=I1.sqB hq3;obtain ⟨u3,hu3,ru3⟩:=rv3.get hy3;refine Ju st p1 lt1 p2 lt2 p3 lt3 (y1:=u1) (y2:=u2) (y3:=u3) (by simpa using hu1) (by simpa using hu2) (by simpa using hu3) fun h1 st1 t1 z1 k1=>?_
  refine ⟨_,rfl,wpAny_letOwnedTupleGo_zip (s:={ s with heap:=h1 }) st1.z fun h2 e2 sb=>?_⟩;have hzl:(I+5) < s.heap.objs.size:=Heap.lt_size st.z;have hfr:=I1.hok.fresh (Nat.le_refl s.heap.objs.size)
  have I2:Inv X pins σ (upd H s.heap.objs.size (.tup [y1,y2,y3])) { s with heap:=s.heap.push { cls:=.type "tuple", data:=.seq #[u1,u2,u3] },toks:=s.toks }:=
   I1.laid (fun b o q=>Heap.get?_push_of_some _ q) (Nat.le_refl _) (show CZ X.prog X.w _ _ _ (.tup [y1,y2,y3]) from ⟨by show 3<=sizeLine;decide,[u1,u2,u3],(.cons ru1 (.cons ru2 (.cons ru3 .nil))),Kr.new _ _⟩)
  have hb:∀ b∈([(I+5),(I+3),(I+4),I,(I+1),(I+2)]:List Nat),I<=b/\b < I+6:=fun b hb=>mN hb
  have hf1:∀ b∈([(I+5),(I+3),(I+4),I,(I+1),(I+2)]:List Nat),FpOk X pins (upd H s.heap.objs.size (.tup [y1,y2,y3])) b:=fun b hbb=>by
   obtain ⟨f0,r⟩:=hf b hbb;refine ⟨?_,r⟩;rw [BL (Nat.ne_of_lt (Nat.lt_of_lt_of_le (hb b hbb).2 (by omega)))];exact f0
  have I3:Inv X pins σ (upd H s.heap.objs.size (.tup [y1,y2,y3])) { s with heap:=h2,toks:=s.toks }:=by
   refine Inv.turnedL (s:={ s with heap:=s.heap.push { cls:=.type "tuple", data:=.seq #[u1,u2,u3] },toks:=s.toks }) (h':=h2) (t':=s.toks) (ch:=[(I+5),(I+3),(I+4),I,(I+1),(I+2)]) I2 (fun b o hbb q=>?_) hf1
   have q:(s.heap.push { cls:=.type "tuple", data:=.seq #[u1,u2,u3] }).get? b=some o:=q
   have hbe:b≠(I+5):=fun z=>hbb (by simp [z])
   refine (sb.2 b hbe).trans ?_
   by_cases hbs:b=s.heap.objs.size
   ·subst hbs;rw [Heap.get?_push_size _ rfl] at q;rw [<- q];exact t1
   ·rw [Heap.get?_push_ne _ _ _ hbs] at q;exact k1 b o (eR hbb) q
  refine ⟨.ref s.heap.objs.size,_,I3,rfl,⟨_,y1,y2,y3,hfr,rfl,rfl,fun zs hz=>by rw [I1.sqB_inj hz hq1];exact hy1,fun zs hz=>by rw [I1.sqB_inj hz hq2];exact hy2,fun zs hz=>by rw [I1.sqB_inj hz hq3];exact hy3⟩,?_,fun b hbb=>(hf1 b hbb).1⟩;exact ⟨e2,sb.extBut _ _ (Cb (by omega)) st1.ti,let ⟨v1,v2,v3,e⟩:=st1.to;⟨v1,v2,v3,sb.extBut _ _ (Cb (by omega)) e⟩,st1.s1.at fun o e=>sb.extBut _ _ (Cb (by omega)) e,st1.s2.at fun o e=>sb.extBut _ _ (Cb (by omega)) e,st1.s3.at fun o e=>sb.extBut _ _ (Cb (by omega)) e⟩
 done:=by
  intro X hP hw hK hc i pins s σ H E I1 hf st hg;subst hP hw hK;obtain ⟨ws1,ws2,ws3,hq1,hq2,hq3,hend⟩:=hg;obtain ⟨its1,rv1,p1,hl1⟩:=I1.sqB hq1;have le1:=rv1.length;obtain ⟨its2,rv2,p2,hl2⟩:=I1.sqB hq2;have le2:=rv2.length;obtain ⟨its3,rv3,p3,hl3⟩:=I1.sqB hq3;have le3:=rv3.length;have hend2:its1.toArray[i]?=none\/its2.toArray[i]?=none\/its3.toArray[i]?=none:=by
   rcases hend with h | h | h
   ·exact .inl (by simp;omega)
   ·exact .inr (.inl (by simp;omega))
   ·exact .inr (.inr (by simp;omega))
  refine Kg (I1.ok.hd hc) st p1 lt1 p2 lt2 p3 lt3 hend2 fun h' k=>⟨rfl,?_⟩
  refine Inv.turnedL (t':=s.toks) (ch:=[(I+5),(I+3),(I+4),I,(I+1),(I+2)]) I1 (fun b o hbb e=>k b o (eR hbb) e) hf
 self:=fun _ _ _ _ _ st h=>wpAny_pyIter_zip st.z h
section
variable {X:Cx} {elts:List Expr} {x1} {tpos:Pos}
abbrev mP (K:W.Frag) (ta:TA):TI:=fun σ H R=>ta σ H fun vs H1=>∃ a1 a2 a3 b1 b2 b3,vs=[.ref a1,.ref a2,.ref a3]/\(∃ xs,II K H1 a1 xs b1)/\(∃ xs,II K H1 a2 xs b2)/\(∃ xs,II K H1 a3 xs b3)/\R (dM K a1 a2 a3 b1 b2 b3) H1
theorem bp (K:W.Frag) {e1 e2 e3:Expr} {ta:TA} {p pos:Pos} (hg:Gl X "zip") (hm:X.mg "zip" = none) (ha:PA X [e1,e2,e3] ta) (hK:X.K=K:=by rfl) (hs:starEach (e1::[e2,e3]) X.env=(false,eval e1 X.env)::starEach [e2,e3] X.env:=by rfl) (hpl:(backTo pos (starEach [e2,e3] X.env)).any (·.1)=false:=by rfl):PI X (.Tuple elts x1 tpos) (.Call (.Name "zip" p) [e1,e2,e3] [] pos) (mP K ta):=by
 subst hK;intro pins s σ H R I h;refine Call_ (Fb I hg hm PyProof.Rows.Boot.«zip» (PyProof.Rows.callWith_type1 (CQ (ha pos pins s σ H _ I h) fun us s1 ⟨vs,H1,I1,r1,q1⟩=>?_) hs hpl));obtain ⟨a1,a2,a3,b1,b2,b3,rfl,⟨ws1,hq1⟩,⟨ws2,hq2⟩,⟨ws3,hq3⟩,q⟩:=q1;obtain ⟨its1,rv1,p1,hl1⟩:=I1.sqB hq1;obtain ⟨its2,rv2,p2,hl2⟩:=I1.sqB hq2;obtain ⟨its3,rv3,p3,hl3⟩:=I1.sqB hq3;have rr:=r1;clear r1;cases rr with
 | cons r1 w1 =>
  cases w1 with
  | cons r2 w2 =>
   cases w2 with
   | cons r3 w3 =>
    cases w3;cases r1;cases r2;cases r3;refine WL p1 p2 p3 fun h' st hsz hk=>?_
    refine wpAny_pyIter_zip (s:={ s1 with heap:=h' }) st.z ?_;refine ⟨s1.heap.objs.size+5,[(s1.heap.objs.size+5),(s1.heap.objs.size+3),(s1.heap.objs.size+4),s1.heap.objs.size,(s1.heap.objs.size+1),(s1.heap.objs.size+2)],fun i h=>Zst3 h s1.heap.objs.size a1 a2 a3 b1 b2 b3 i .none,dM X.K a1 a2 a3 b1 b2 b3,H1,rfl,I1.kept (t':=s1.toks) hk,VH s1.heap.objs.size a1 a2 a3 b1 b2 b3 hl1 hl2 hl3,st,fun b hb=>?_,q⟩;have hb':s1.heap.objs.size<=b:=(mN (I:=s1.heap.objs.size) hb).1;exact I1.fpOk hb' (I1.hok.fresh hb')
end
end L2
namespace Q
open PySem L2
theorem GI {K:W.Frag} {g:G} {H:Hp} {d:Dt} {ds:List Dt} {v:V} {P:Fp} (h:Rep K g H d v P) (e:items d=some ds) :
    ∃ a b,v=.ref a/\∀ g2 H2,HB g H P g2 H2->∃ vs,II K H2 a vs b/\vs.length=ds.length/\∀ (i:Nat) (x:Dt),ds[i]?=some x->∃ u,vs[i]?=some u/\Rep K g2 H2 x u BS:=by
  cases d with
  | tup es =>
    simp only [items] at e;cases c:cps es with
    | false=>rw [c] at e;cases e
    | true =>
      rw [c] at e;cases e;obtain ⟨a,vs,rfl,h1,h2⟩:=h.tup;refine ⟨a,true,rfl,fun g2 H2 st=>?_⟩;obtain ⟨a',ws,q,k1,k2⟩:=(st.rep h).tup;cases q;refine ⟨ws,k1,k2.len.symm,fun i x ex=>?_⟩;obtain ⟨u,P',eu,ru,_⟩:=k2.get ex;exact ⟨u,eu,ru.cp (LO c ex)⟩
  | lst o es =>
    simp only [items] at e;cases c:cps es with
    | false=>rw [c] at e;cases e
    | true =>
      rw [c] at e;cases e;obtain ⟨a,vs,P1,rfl,h1,h2⟩:=h.lst;refine ⟨a,false,rfl,fun g2 H2 st=>?_⟩;obtain ⟨a',ws,P1',q,k1,k2⟩:=(st.rep h).lst;cases q;refine ⟨ws,.inl (.inl k1),k2.len.symm,fun i x ex=>?_⟩;obtain ⟨u,P',eu,ru,_⟩:=k2.get ex;exact ⟨u,eu,ru.cp (LO c ex)⟩
  | scr ns =>
    simp only [items,Option.some.injEq] at e;subst e;obtain ⟨a,rfl,h1⟩:=h.scr;refine ⟨a,false,rfl,fun g2 H2 st=>?_⟩;obtain ⟨a',q,k1⟩:=(st.rep h).scr;cases q;refine ⟨ns.map V.int,k1,by simp,fun i x ex=>?_⟩;rw [List.getElem?_map] at ex;cases hn:ns[i]? with
    | none=>rw [hn] at ex;cases ex
    | some n =>
      rw [hn] at ex;simp only [Option.map_some,Option.some.injEq] at ex;subst ex;exact ⟨.int n,by rw [List.getElem?_map,hn];rfl,by unfold Rep;exact ⟨rfl,fun _ z=>z⟩⟩
  | _=>cases e
theorem HB.left {g:G} {H:Hp} {P P':Fp} {g2:G} {H2:Hp} (s:HB g H P g2 H2) (h:∀ a,P' a->P a):HB g H P' g2 H2:=
 let ⟨Q,Q',st,ok,n⟩:=s;⟨Q,Q',st,ok,fun a q z=>n a (h a q) z⟩
noncomputable def EZ:List Dt->List Dt->List Dt
 | x1::xs1,x2::xs2=>.tup [x1,x2]::EZ xs1 xs2
 | _,_=>[]
theorem Nb:∀ (xs1 xs2:List Dt) (i:Nat) (e:Dt),(EZ xs1 xs2)[i]?=some e->∃ x1 x2,xs1[i]?=some x1/\xs2[i]?=some x2/\e=.tup [x1,x2]
 | x1::xs1,x2::xs2,0,e,h=>by simp [EZ] at h;exact ⟨x1,x2,rfl,rfl,h.symm⟩
 | x1::xs1,x2::xs2,i+1,e,h=>by
  obtain ⟨y1,y2,h1,h2,q⟩:=Nb xs1 xs2 i e (by simpa [EZ] using h);exact ⟨y1,y2,by simpa using h1,by simpa using h2,q⟩
 | [],_,i,e,h=>by simp [EZ] at h
 | x1::xs1,[],i,e,h=>by simp [EZ] at h
theorem Nc:∀ (xs1 xs2:List Dt) (i:Nat),(EZ xs1 xs2).length<=i->xs1.length<=i\/xs2.length<=i
 | x1::xs1,x2::xs2,0,h=>by simp [EZ] at h
 | x1::xs1,x2::xs2,i+1,h=>by
  have:=Nc xs1 xs2 i (by simpa [EZ] using h);simp only [List.length_cons];omega
 | [],_,i,h=>by simp
 | x1::xs1,[],i,h=>by simp
def Iy (f1 f2:Ev Dt) (m:M):Option (List Dt×M):=do
 let (ds,m1) <- AV [.ev f1,.ev f2] m
 match ds with
 | [d1,d2]=>do
  let xs1 <- items d1
  let xs2 <- items d2
  some (EZ xs1 xs2,m1)
 | _=>none
theorem av {K:W.Frag} {g:G} {H:Hp} {a1 a2:Addr} {b1 b2:Bool} {ds1 ds2:List Dt} {Ph:Fp}
    (h1:∀ g2 H2,HB g H Ph g2 H2->∃ vs,II K H2 a1 vs b1/\vs.length=ds1.length/\∀ (i:Nat) (x:Dt),ds1[i]?=some x->∃ u,vs[i]?=some u/\Rep K g2 H2 x u BS)
    (h2:∀ g2 H2,HB g H Ph g2 H2->∃ vs,II K H2 a2 vs b2/\vs.length=ds2.length/\∀ (i:Nat) (x:Dt),ds2[i]?=some x->∃ u,vs[i]?=some u/\Rep K g2 H2 x u BS)
    : Yl K (dN K a1 a2 b1 b2) (EZ ds1 ds2) Ph g H:=by
  intro g2 H2 st;obtain ⟨vs1,sq1,l1,r1⟩:=h1 g2 H2 st;obtain ⟨vs2,sq2,l2,r2⟩:=h2 g2 H2 st;refine ⟨fun i d e=>?_,fun i hi=>⟨vs1,vs2,sq1,sq2,by have:=Nc _ _ _ hi;omega⟩⟩;obtain ⟨x1,x2,e1,e2,rfl⟩:=Nb _ _ i d e;obtain ⟨u1,eu1,ru1⟩:=r1 i x1 e1;obtain ⟨u2,eu2,ru2⟩:=r2 i x2 e2;refine ⟨⟨vs1,vs2,u1,u2,sq1,eu1,sq2,eu2⟩,fun x H3 y=>?_⟩;obtain ⟨p,w1,w2,hp,rfl,rfl,y1,y2⟩:=y;have:=y1 vs1 sq1;rw [eu1] at this;cases this;have:=y2 vs2 sq2;rw [eu2] at this;cases this;have rs:AG K g2 H2 [x1,x2] [u1,u2] BS:=(AG.cons ru1 (AG.cons ru2 AG.nil fun _ z=>z.elim) fun _ z=>z.elim).iff fun a=>⟨fun z=>z.elim,fun z=>z.elim id fun z=>z.elim id id⟩
  exact CO.tupNew hp rs
section
variable {X:Cx} {elts:List Expr} {x1:Nat} {tpos p pos:Pos} {e1 e2:Expr} {f1 f2:Ev Dt}
theorem Tv (hg:Gl X "zip") (hm:X.mg "zip" = none) (ha:QA X [e1,e2] [.ev f1,.ev f2]) (hs:starEach (e1::[e2]) X.env=(false,eval e1 X.env)::starEach [e2] X.env:=by rfl) (hpl:(backTo pos (starEach [e2] X.env)).any (·.1)=false:=by rfl):QI X (.Tuple elts x1 tpos) (.Call (.Name "zip" p) [e1,e2] [] pos) (Iy f1 f2):=⟨PI.imp (bq X.K hg hm ha.h rfl hs hpl) fun σ H R q=>by
 obtain ⟨g,m,P,r,ds,m',e,k⟩:=q;simp only [Iy,Option.bind_eq_bind,Option.bind_eq_some_iff,Prod.exists] at e;obtain ⟨es,m1,e1,e⟩:=e;refine Ba [.ev f1,.ev f2] r e1 fun g' P' Pv vs H' s rs r1 nn=>?_
 have rp:=AU.reps rfl rs;split at e
 ·rename_i d1 d2;simp only [Option.bind_eq_some_iff,Option.some.injEq,Prod.mk.injEq] at e;obtain ⟨xs1,i1,xs2,i2,rfl,rfl⟩:=e;unfold AG at rp;obtain ⟨v1,vr1,Pa1,Pb1,rfl,h1,t1,dj1,pp1⟩:=rp;unfold AG at t1;obtain ⟨v2,vr2,Pa2,Pb2,rfl,h2,t2,dj2,pp2⟩:=t1;unfold AG at t2;obtain ⟨rfl,tn⟩:=t2;obtain ⟨a1,b1,rfl,q1⟩:=GI h1 i1;obtain ⟨a2,b2,rfl,q2⟩:=GI h2 i2;have sb1:∀ a,Pa1 a->Pv a:=fun a z=>(pp1 a).mpr (.inl z)
  have sb2:∀ a,Pa2 a->Pv a:=fun a z=>(pp1 a).mpr (.inr ((pp2 a).mpr (.inl z)))
  have st0:HB g' H' Pv g' H':=⟨BS,BS,Step.refl,fun _ z=>z.elim,fun _ _ z=>z⟩;obtain ⟨ws1,sq1,_⟩:=q1 g' H' (st0.left sb1);obtain ⟨ws2,sq2,_⟩:=q2 g' H' (st0.left sb2);exact ⟨a1,a2,b1,b2,rfl,⟨ws1,sq1⟩,⟨ws2,sq2⟩,k g' P' Pv H' _ s r1 nn (av (fun g2 H2 st=>q1 g2 H2 (st.left sb1)) (fun g2 H2 st=>q2 g2 H2 (st.left sb2)))⟩
 ·cases e⟩
end
noncomputable def Dk:List Dt->List Dt->List Dt->List Dt
 | x1::xs1,x2::xs2,x3::xs3=>.tup [x1,x2,x3]::Dk xs1 xs2 xs3
 | _,_,_=>[]
theorem NZ:∀ (xs1 xs2 xs3:List Dt) (i:Nat) (e:Dt),(Dk xs1 xs2 xs3)[i]?=some e->∃ x1 x2 x3,xs1[i]?=some x1/\xs2[i]?=some x2/\xs3[i]?=some x3/\e=.tup [x1,x2,x3]
 | x1::xs1,x2::xs2,x3::xs3,0,e,h=>by simp [Dk] at h;exact ⟨x1,x2,x3,rfl,rfl,rfl,h.symm⟩
 | x1::xs1,x2::xs2,x3::xs3,i+1,e,h=>by
  obtain ⟨y1,y2,y3,h1,h2,h3,q⟩:=NZ xs1 xs2 xs3 i e (by simpa [Dk] using h);exact ⟨y1,y2,y3,by simpa using h1,by simpa using h2,by simpa using h3,q⟩
 | [],_,_,i,e,h=>by simp [Dk] at h
 | x1::xs1,[],_,i,e,h=>by simp [Dk] at h
 | x1::xs1,x2::xs2,[],i,e,h=>by simp [Dk] at h
theorem Na:∀ (xs1 xs2 xs3:List Dt) (i:Nat),(Dk xs1 xs2 xs3).length<=i->xs1.length<=i\/xs2.length<=i\/xs3.length<=i
 | x1::xs1,x2::xs2,x3::xs3,0,h=>by simp [Dk] at h
 | x1::xs1,x2::xs2,x3::xs3,i+1,h=>by
  have:=Na xs1 xs2 xs3 i (by simpa [Dk] using h);simp only [List.length_cons];omega
 | [],_,_,i,h=>by simp
 | x1::xs1,[],_,i,h=>by simp
 | x1::xs1,x2::xs2,[],i,h=>by simp
def Iw (f1 f2 f3:Ev Dt) (m:M):Option (List Dt×M):=do
 let (ds,m1) <- AV [.ev f1,.ev f2,.ev f3] m
 match ds with
 | [d1,d2,d3]=>do
  let xs1 <- items d1
  let xs2 <- items d2
  let xs3 <- items d3
  some (Dk xs1 xs2 xs3,m1)
 | _=>none
theorem au {K:W.Frag} {g:G} {H:Hp} {a1 a2 a3:Addr} {b1 b2 b3:Bool} {ds1 ds2 ds3:List Dt} {Ph:Fp}
    (h1:∀ g2 H2,HB g H Ph g2 H2->∃ vs,II K H2 a1 vs b1/\vs.length=ds1.length/\∀ (i:Nat) (x:Dt),ds1[i]?=some x->∃ u,vs[i]?=some u/\Rep K g2 H2 x u BS)
    (h2:∀ g2 H2,HB g H Ph g2 H2->∃ vs,II K H2 a2 vs b2/\vs.length=ds2.length/\∀ (i:Nat) (x:Dt),ds2[i]?=some x->∃ u,vs[i]?=some u/\Rep K g2 H2 x u BS)
    (h3:∀ g2 H2,HB g H Ph g2 H2->∃ vs,II K H2 a3 vs b3/\vs.length=ds3.length/\∀ (i:Nat) (x:Dt),ds3[i]?=some x->∃ u,vs[i]?=some u/\Rep K g2 H2 x u BS)
    : Yl K (dM K a1 a2 a3 b1 b2 b3) (Dk ds1 ds2 ds3) Ph g H:=by
  intro g2 H2 st;obtain ⟨vs1,sq1,l1,r1⟩:=h1 g2 H2 st;obtain ⟨vs2,sq2,l2,r2⟩:=h2 g2 H2 st;obtain ⟨vs3,sq3,l3,r3⟩:=h3 g2 H2 st;refine ⟨fun i d e=>?_,fun i hi=>⟨vs1,vs2,vs3,sq1,sq2,sq3,by have:=Na _ _ _ _ hi;omega⟩⟩;obtain ⟨x1,x2,x3,e1,e2,e3,rfl⟩:=NZ _ _ _ i d e;obtain ⟨u1,eu1,ru1⟩:=r1 i x1 e1;obtain ⟨u2,eu2,ru2⟩:=r2 i x2 e2;obtain ⟨u3,eu3,ru3⟩:=r3 i x3 e3;refine ⟨⟨vs1,vs2,vs3,u1,u2,u3,sq1,eu1,sq2,eu2,sq3,eu3⟩,fun x H3 y=>?_⟩;obtain ⟨p,w1,w2,w3,hp,rfl,rfl,y1,y2,y3⟩:=y;have:=y1 vs1 sq1;rw [eu1] at this;cases this;have:=y2 vs2 sq2;rw [eu2] at this;cases this;have:=y3 vs3 sq3;rw [eu3] at this;cases this;have rs:AG K g2 H2 [x1,x2,x3] [u1,u2,u3] BS:=(AG.cons ru1 (AG.cons ru2 (AG.cons ru3 AG.nil fun _ z=>z.elim) fun _ z=>z.elim) fun _ z=>z.elim).iff fun a=>⟨fun z=>z.elim,fun z=>z.elim id fun z=>z.elim id fun z=>z.elim id id⟩
  exact CO.tupNew hp rs
section
variable {X:Cx} {elts:List Expr} {x1:Nat} {tpos p pos:Pos} {e1 e2 e3:Expr} {f1 f2 f3:Ev Dt}
theorem Tu (hg:Gl X "zip") (hm:X.mg "zip" = none) (ha:QA X [e1,e2,e3] [.ev f1,.ev f2,.ev f3]) (hs:starEach (e1::[e2,e3]) X.env=(false,eval e1 X.env)::starEach [e2,e3] X.env:=by rfl) (hpl:(backTo pos (starEach [e2,e3] X.env)).any (·.1)=false:=by rfl):QI X (.Tuple elts x1 tpos) (.Call (.Name "zip" p) [e1,e2,e3] [] pos) (Iw f1 f2 f3):=⟨PI.imp (bp X.K hg hm ha.h rfl hs hpl) fun σ H R q=>by
 obtain ⟨g,m,P,r,ds,m',e,k⟩:=q;simp only [Iw,Option.bind_eq_bind,Option.bind_eq_some_iff,Prod.exists] at e;obtain ⟨es,m1,e1,e⟩:=e;refine Ba [.ev f1,.ev f2,.ev f3] r e1 fun g' P' Pv vs H' s rs r1 nn=>?_
 have rp:=AU.reps rfl rs;split at e
 ·rename_i d1 d2 d3;simp only [Option.bind_eq_some_iff,Option.some.injEq,Prod.mk.injEq] at e;obtain ⟨xs1,i1,xs2,i2,xs3,i3,rfl,rfl⟩:=e;unfold AG at rp;obtain ⟨v1,vr1,Pa1,Pb1,rfl,h1,t1,dj1,pp1⟩:=rp;unfold AG at t1;obtain ⟨v2,vr2,Pa2,Pb2,rfl,h2,t2,dj2,pp2⟩:=t1;unfold AG at t2;obtain ⟨v3,vr3,Pa3,Pb3,rfl,h3,t3,dj3,pp3⟩:=t2;unfold AG at t3;obtain ⟨rfl,tn⟩:=t3;obtain ⟨a1,b1,rfl,q1⟩:=GI h1 i1;obtain ⟨a2,b2,rfl,q2⟩:=GI h2 i2;obtain ⟨a3,b3,rfl,q3⟩:=GI h3 i3;have sb1:∀ a,Pa1 a->Pv a:=fun a z=>(pp1 a).mpr (.inl z)
  have sb2:∀ a,Pa2 a->Pv a:=fun a z=>(pp1 a).mpr (.inr ((pp2 a).mpr (.inl z)))
  have sb3:∀ a,Pa3 a->Pv a:=fun a z=>(pp1 a).mpr (.inr ((pp2 a).mpr (.inr ((pp3 a).mpr (.inl z)))))
  have st0:HB g' H' Pv g' H':=⟨BS,BS,Step.refl,fun _ z=>z.elim,fun _ _ z=>z⟩;obtain ⟨ws1,sq1,_⟩:=q1 g' H' (st0.left sb1);obtain ⟨ws2,sq2,_⟩:=q2 g' H' (st0.left sb2);obtain ⟨ws3,sq3,_⟩:=q3 g' H' (st0.left sb3);exact ⟨a1,a2,a3,b1,b2,b3,rfl,⟨ws1,sq1⟩,⟨ws2,sq2⟩,⟨ws3,sq3⟩,k g' P' Pv H' _ s r1 nn (au (fun g2 H2 st=>q1 g2 H2 (st.left sb1)) (fun g2 H2 st=>q2 g2 H2 (st.left sb2)) (fun g2 H2 st=>q3 g2 H2 (st.left sb3)))⟩
 ·cases e⟩
end
end Q
namespace L2
open PySem PySem.Spec PyProof.Rows
def nU (x:Str):It:=⟨fun i H=>∃ c,x.cps[i]?=some c,fun i H v H'=>H'=H/\∃ c,x.cps[i]?=some c/\v=.str ⟨#[c]⟩,fun i H=>x.cps[i]?=none⟩
theorem Sa {h h':Heap} {a:Addr} {ty:String} {x:Str} {t:Tok} {i:Nat} (y:h.IsStrIter a ty x t i) (k:∀ o,h.get? a=some o->h'.get? a=some o):h'.IsStrIter a ty x t i:=
 let ⟨o,ho,r⟩:=y;⟨o,k o ho,r⟩
theorem Wr {P:Program} {w:World} {K:W.Frag} {tg:Expr} (x:Str) (t:Tok) (it:Addr):Turn P w K tg (nU x) [it] it (fun i h=>h.IsStrIter it (strIterType x) x t i) where
 mem:=by simp
 obj:=fun i h st b hb=>by
  have e:b=it:=by simpa using hb
  subst e;obtain ⟨o,e,c,d⟩:=st;exact ⟨o,e,fun v z=>by rw [d] at z;cases z⟩
 keep:=fun i h h' st k=>Sa st fun o e=>k it (by simp) o e
 item:=by
  intro X hP hw hK hc i pins s σ H E I hf st hg;subst hP hw hK;obtain ⟨c,hx⟩:=hg;obtain ⟨f0,f1,f2,f3,f4,f5⟩:=hf it (by simp);have fin:∀ h':Heap,h'.IsStrIter it (strIterType x) x t (i+1)->Heap.SameBut it s.heap h'->∃ u,some (Value.str ⟨#[c]⟩ s.toks)=some u/\wpAny (model X.prog X.w) X.A (letOwnedTupleGo tg (.ref it) u) (fun _ s2=>∃ x_1 H',Inv X pins σ H' s2/\RelV x_1 u/\(nU x).yld i H x_1 H'/\s2.heap.IsStrIter it (strIterType x) x t (i+1)/\∀ b∈[it],H' b=none) E { s with heap:=h',toks:=s.toks+1 }:=fun h' st' sb=>by
   have I1:Inv X pins σ H { s with heap:=h',toks:=s.toks+1 }:=I.turned (t':=s.toks+1) (fun b o hb e=>(sb.2 b hb).trans e) f0 f1 f3 f4 f5;obtain ⟨o,e,c',d⟩:=id st';exact ⟨_,rfl,Ue (s:={ s with heap:=h',toks:=s.toks+1 }) e c' d (by unfold strIterType;split<;>decide) ⟨.str ⟨#[c]⟩,H,I1,⟨_,rfl⟩,⟨rfl,c,hx,rfl⟩,st',fun b hb=>(hf b hb).1⟩⟩
  by_cases ha:x.cps.all (· < 128)=true
  ·have e:strIterType x = "str_ascii_iterator" := by unfold strIterType;rw [if_pos ha]
   rw [e] at st fin ⊢;exact wpAny_pyNext_ascii_item st hx fun h' st' sb=>fin h' st' sb
  ·have e:strIterType x = "str_iterator" := by unfold strIterType;rw [if_neg ha]
   rw [e] at st fin ⊢;exact wpAny_pyNext_wide_item st hx fun h' st' sb=>fin h' st' sb
 done:=by
  intro X hP hw hK hc i pins s σ H E I hf st hg;subst hP hw hK;obtain ⟨f0,f1,f2,f3,f4,f5⟩:=hf it (by simp)
  by_cases ha:x.cps.all (· < 128)=true
  ·have e:strIterType x = "str_ascii_iterator" := by unfold strIterType;rw [if_pos ha]
   rw [e] at st;exact wpAny_pyNext_ascii_end (I.ok.hd hc) st hg fun h' eb=>⟨rfl,I.turned (t':=s.toks) (fun b o hb e=>eb b o hb e) f0 f1 f3 f4 f5⟩
  ·have e:strIterType x = "str_iterator" := by unfold strIterType;rw [if_neg ha]
   rw [e] at st;exact wpAny_pyNext_wide_end (I.ok.hd hc) st hg fun h' eb=>⟨rfl,I.turned (t':=s.toks) (fun b o hb e=>eb b o hb e) f0 f1 f3 f4 f5⟩
 self:=fun A i s Q E st h=>by
  by_cases ha:x.cps.all (· < 128)=true
  ·have e:strIterType x = "str_ascii_iterator" := by unfold strIterType;rw [if_pos ha]
   rw [e] at st;exact wpAny_pyIter_striter_ascii st h
  ·have e:strIterType x = "str_iterator" := by unfold strIterType;rw [if_neg ha]
   rw [e] at st;exact wpAny_pyIter_striter_wide st h
section
variable {X:Cx}
abbrev mT (K:W.Frag) (tl:TE):TI:=fun σ H R=>tl σ H fun x H1=>(∃ a xs,x=.ref a/\((HC K H1 a xs/\R (nV K a) H1)\/(IK K H1 a xs/\R (pR K a) H1)))\/∃ z,x=.str z/\R (nU z) H1
theorem bt {tg l:Expr} {tl:TE} (hl:PE X l tl):PI X tg l (mT X.K tl):=by
 intro pins s σ H R I h;refine CQ (hl pins s σ H _ I h) fun v s1 ⟨x,H1,I1,r1,q1⟩=>?_
 rcases q1 with ⟨a,xs,e,q⟩ | ⟨z,e,q⟩
 ·subst e;cases r1;rcases q with ⟨hq,q⟩ | ⟨hq,q⟩
  ·obtain ⟨its,rv,p,hz⟩:=I1.list hq;refine wpAny_pyIter_list p.isList ?_;refine ⟨s1.heap.objs.size,[s1.heap.objs.size],_,_,H1,rfl,I1.kept (t':=s1.toks) fun b o e=>Heap.get?_push_of_some _ e,VJ a _,⟨_,Heap.get?_push_size _ rfl,rfl,rfl⟩,fun b hb=>?_,q⟩;have e:b=s1.heap.objs.size:=by simpa using hb
   subst e;exact I1.fpOk (Nat.le_refl _) (I1.hok.fresh (Nat.le_refl _))
  ·obtain ⟨its,rv,p,hz⟩:=I1.tuple hq;refine wpAny_pyIter_tuple (show s1.heap.IsTuple a its.toArray from p) ?_;refine ⟨s1.heap.objs.size,[s1.heap.objs.size],_,_,H1,rfl,I1.kept (t':=s1.toks) fun b o e=>Heap.get?_push_of_some _ e,SM a _,⟨_,Heap.get?_push_size _ rfl,rfl,rfl⟩,fun b hb=>?_,q⟩;have e:b=s1.heap.objs.size:=by simpa using hb
   subst e;exact I1.fpOk (Nat.le_refl _) (I1.hok.fresh (Nat.le_refl _))
 ·subst e;obtain ⟨t,rfl⟩:=r1;refine wpAny_pyIter_strU ?_;refine ⟨s1.heap.objs.size,[s1.heap.objs.size],_,_,H1,rfl,I1.kept (t':=s1.toks) fun b o e=>Heap.get?_push_of_some _ e,Wr z t _,⟨_,Heap.get?_push_size _ rfl,rfl,rfl⟩,fun b hb=>?_,q⟩;have e:b=s1.heap.objs.size:=by simpa using hb
  subst e;exact I1.fpOk (Nat.le_refl _) (I1.hok.fresh (Nat.le_refl _))
end
section
end
theorem Draws.sq {prog:Program} {w:World} {A:Around} (hh:A.handled=none) (it l:Addr) (hne:l≠it) (items:Array Value) (b:Bool) :
    Draws prog w A it [it,l] items.size (fun i v=>items[i]?=some v) (fun i h=>Fk h it l i b/\FV h l items b) where
  live:=fun _ _ st=>let ⟨o,ho,_⟩:=st.1.obj;⟨o,ho⟩
  frame:=fun _ _ _ st hk=>⟨st.1.at fun o e=>hk it (by simp) o e,st.2.at fun o e=>hk l (by simp) o e⟩
  item:=fun i s Q E hi st hQ=>by
    refine Ec st.1 st.2 (x:=items[i]) (by simp [hi]) fun h' hit' hs'=>?_
    exact hQ _ h' s.toks (by simp [hi]) ⟨hit',st.2.at fun o e=>hs'.extBut _ _ hne e⟩ hs'
  done:=fun s Q E st hE=>Jq hh st.1 st.2 (by simp) hE
def kG (K:W.Frag) (a:Addr) (b:Bool) (n:Nat):It:=
 ⟨fun i H=>∃ xs x,II K H a xs b/\xs.length=n/\xs[i]?=some x,fun i H x H'=>∃ p y,H p=none/\x=.ref p/\H'=upd H p (.tup [.int i,y])/\∀ xs,II K H a xs b->xs[i]?=some y,fun i H=>∃ xs,II K H a xs b/\xs.length=n/\n<=i⟩
theorem SO {P:Program} {w:World} {K:W.Frag} {elts:List Expr} {x1} {pos:Pos} (a e it:Addr) (b:Bool) (n:Nat) (hne:e≠it) (hae:a≠e) (hai:a≠it):Turn P w K (.Tuple elts x1 pos) (kG K a b n) [e,it] e (fun i h=>(∃ old,IsEnum h e it i old)/\Fk h it a i b/\i<=n) where
 mem:=by simp
 obj:=fun i h st c hb=>by
  obtain ⟨⟨old,he⟩,hi,hin⟩:=st;rcases List.mem_cons.mp hb with z | z
  ·subst z;exact ⟨_,he,fun v z=>by cases z⟩
  ·have z:=List.mem_singleton.mp z;subst z;exact hi.obj
 keep:=fun i h h' st k=>by
  obtain ⟨⟨old,he⟩,hi,hin⟩:=st;exact ⟨⟨old,k e (by simp) _ he⟩,hi.at fun o q=>k it (by simp) o q,hin⟩
 item:=by
  intro X hP hw hK hc i pins s σ H E I hf st hg;subst hP hw hK;obtain ⟨xs,x,hq,hxn,hx⟩:=hg;obtain ⟨⟨old,he⟩,hi,hin⟩:=st;obtain ⟨its,rv,p,hz⟩:=I.sqB hq;obtain ⟨u,hu,ru⟩:=rv.get hx;have hil:i < its.toArray.size:=by have:=(List.getElem?_eq_some_iff.mp hu).1;simpa using this
  refine wpAny_pyNext_enum_itemD (Draws.sq (A:=X.A.in1) (I.ok.hd hc) it a hai its.toArray b) he ⟨hi,p⟩ hil hne (by simp [hne,hae.symm]) fun x' h1 tk e1 o1 i1 t1 z1 k1=>?_
  have ex:x'=u:=by
   have e1:its.toArray[i]?=some x':=e1;rw [List.getElem?_toArray,hu] at e1;exact (Option.some.inj e1).symm
  subst ex;refine ⟨_,rfl,wpAny_letOwnedTupleGo_enum (s:={ s with heap:=h1,toks:=tk+1 }) o1 fun h2 e2 sb=>?_⟩;have hel:e < s.heap.objs.size:=Heap.lt_size he;have hil:it < s.heap.objs.size:=by obtain ⟨o,q,_⟩:=hi.obj;exact Heap.lt_size q
  have hfr:=I.hok.fresh (Nat.le_refl s.heap.objs.size)
  have I1:Inv X pins σ (upd H s.heap.objs.size (.tup [.int i,x])) { s with heap:=s.heap.push { cls:=.type "tuple", data:=.seq #[.int i tk,x'] },toks:=tk+1 }:=
   I.laid (fun b o q=>Heap.get?_push_of_some _ q) (Nat.le_refl _) (show CZ X.prog X.w _ _ _ (.tup [.int i,x]) from ⟨by show 2<=sizeLine;decide,[.int i tk,x'],.cons ⟨_,rfl⟩ (.cons ru .nil),Kr.new _ _⟩)
  have hf1:∀ b∈[e,it],FpOk X pins (upd H s.heap.objs.size (.tup [.int i,x])) b:=fun b hb=>by
   obtain ⟨f0,r⟩:=hf b hb;refine ⟨?_,r⟩;have hbl:b≠s.heap.objs.size:=by
    rcases List.mem_cons.mp hb with z | z
    ·rw [z];exact Nat.ne_of_lt hel
    ·rw [List.mem_singleton.mp z];exact Nat.ne_of_lt hil
   rw [BL hbl];exact f0
  have I2:Inv X pins σ (upd H s.heap.objs.size (.tup [.int i,x])) { s with heap:=h2,toks:=tk+1 }:=by
   refine Inv.turnedL (s:={ s with heap:=s.heap.push { cls:=.type "tuple", data:=.seq #[.int i tk,x'] },toks:=tk+1 }) (h':=h2) (t':=tk+1) (ch:=[e,it]) I1 (fun b o hb q=>?_) hf1
   have q:(s.heap.push { cls:=.type "tuple", data:=.seq #[.int i tk,x'] }).get? b=some o:=q
   have hbe:b≠e:=fun z=>hb (by simp [z])
   have hbi:b≠it:=fun z=>hb (by simp [z])
   refine (sb.2 b hbe).trans ?_
   by_cases hbs:b=s.heap.objs.size
   ·subst hbs;rw [Heap.get?_push_size _ rfl] at q;rw [<- q];exact t1
   ·refine k1 b o hbe hbi ?_;rw [Heap.get?_push_ne _ _ _ hbs] at q;exact q
  refine ⟨.ref s.heap.objs.size,_,I2,rfl,⟨_,x,hfr,rfl,rfl,fun ys hy=>by rw [I.sqB_inj hy hq];exact hx⟩,⟨⟨x',by simpa using e2⟩,?_,?_⟩,fun b hb=>(hf1 b hb).1⟩
  ·exact i1.1.at fun o q=>(sb.2 it hne.symm).trans q
  ·have:=(List.getElem?_eq_some_iff.mp hx).1;omega
 done:=by
  intro X hP hw hK hc i pins s σ H E I hf st hg;subst hP hw hK;obtain ⟨xs,hq,hx,hx2⟩:=hg;obtain ⟨⟨old,he⟩,hi,hin⟩:=st;obtain ⟨its,rv,p,hz⟩:=I.sqB hq;obtain ⟨f0,f1,f2,f3,f4,f5⟩:=hf it (by simp);have hl:=rv.length;have ei:its.toArray.size=i:=by simp;omega
  exact wpAny_pyNext_enum_endD (Draws.sq (A:=X.A.in1) (I.ok.hd hc) it a hai its.toArray b) he (by rw [ei];exact ⟨hi,p⟩) fun h' eb=>⟨rfl,I.turned (t':=s.toks) (fun b o hb e=>eb b o hb e) f0 f1 f3 f4 f5⟩
 self:=fun _ _ _ _ _ st h=>wpAny_pyIter_enum st.1.choose_spec h
theorem RP (l:Addr) (items:Array Value) (n:Nat) (dct:Option Addr) (sl:Array (Option Value)) :
    Meets (Builtin.«enumerate.__new__» ⟨[.type "enumerate", .ref l],[]⟩) (fun _ R s=>s.heap.get? l=some { cls:=.type "tuple", dict:=dct,data:=.seq items n,slots:=sl } /\
      R (.ok (.ret (.ref (s.heap.push { cls:=.type "tuple_iterator", data:=.fields #[.ref l,.int 0 0] }).objs.size)))
        { s with heap:=(s.heap.push { cls:=.type "tuple_iterator", data:=.fields #[.ref l,.int 0 0] }).push { cls:=.type "enumerate", data:=.fields #[.none,.bool false,.ref s.heap.objs.size,rawInt 0,.none,.none] } }):=
  .of_wp fun prog w A R s h=>by
    obtain ⟨hp,g,d,tk,os⟩:=s;obtain ⟨hl,h⟩:=h;have hsub:=sub_enumerate;have hL:Heap.IsTuple (Shared.heap ⟨hp,g,d,tk,os⟩) l items:=⟨_,hl,rfl,n,rfl⟩
    wp_walk using PySem.AutoSeq1.wpAny_loadPart' hl
    refine wpAny_stack_any fun st=>wpAny_pure ?_
    split
    · rename_i c _ _ _ _ _
      cases (c == Value.type "enumerate")
      · wp_walk using PySem.AutoSeq1.wpAny_loadPart' hl,wpAny_pyIter_tuple hL
        exact ⟨_,rfl,h⟩
      · wp_walk using PySem.AutoSeq1.wpAny_loadPart' hl,wpAny_pyIter_tuple hL
        exact ⟨_,rfl,h⟩
    · wp_walk using PySem.AutoSeq1.wpAny_loadPart' hl,wpAny_pyIter_tuple hL
      exact ⟨_,rfl,h⟩
section
variable {prog:Program} {w:World} {A:Around} {E:Value->Shared->Prop} {s:Shared}
theorem TR {l:Addr} {items:Array Value} {b:Bool} {Q:Value->Shared->Prop} (hL:FV s.heap l items b)
    (h:∀ h',IsEnum h' (s.heap.objs.size+1) s.heap.objs.size 0 .none->Fk h' s.heap.objs.size l 0 b->h'.objs.size=s.heap.objs.size+2 ->
      (∀ b o,s.heap.get? b=some o->h'.get? b=some o)->Q (.ref (s.heap.objs.size+1)) { s with heap:=h' }) :
    wpAny (model prog w) A (call (.type "enumerate") [.ref l]) Q E s:=by
  cases b with
  | false=>exact call_enumerate_list hL h
  | true =>
    obtain ⟨⟨c,dct,dt,sl⟩,hl,hc,n,hd⟩:=hL
    replace hc:c=.type "tuple" := hc
    replace hd:dt=.seq items n:=hd;subst hc hd;refine callType_new F.called_enumerate (by decide) (F.typeCall_enumerate_1 _) (F.newCall_enumerate_1 _) (fun obj=>F.args_object_init_2 obj _) F.entry_enumerate_new
      (RP l items n dct sl) ⟨hl,?_⟩
    have hz:(s.heap.push { cls:=.type "tuple_iterator", data:=.fields #[.ref l,.int 0 0] }).objs.size=s.heap.objs.size+1:=Heap.size_push ..
    show _/\_;rw [hz]
    have he:IsEnum ((s.heap.push { cls:=.type "tuple_iterator", data:=.fields #[.ref l,.int 0 0] }).push
        { cls:=.type "enumerate", data:=.fields #[.none,.bool false,.ref s.heap.objs.size,rawInt 0,.none,.none] }) (s.heap.objs.size+1) s.heap.objs.size 0 .none:=by
      have:=Heap.get?_push_size (s.heap.push { cls:=.type "tuple_iterator", data:=.fields #[.ref l,.int 0 0] })
        (o:={ cls:=.type "enumerate", data:=.fields #[.none,.bool false,.ref s.heap.objs.size,rawInt 0,.none,.none] }) rfl
      rw [hz] at this;exact this
    refine ⟨⟨_,he,rfl⟩,h _ he ⟨_,Heap.get?_push_of_some _ (Heap.get?_push_size _ rfl),rfl,rfl⟩ (by rw [Heap.size_push,hz]) fun b o x=>Heap.get?_push_of_some _ (Heap.get?_push_of_some _ x)⟩
end
section
variable {X:Cx} {elts:List Expr} {x1} {tpos:Pos}
abbrev jR (K:W.Frag) (ta:TA):TI:=fun σ H R=>ta σ H fun vs H1=>∃ a b xs,vs=[.ref a]/\II K H1 a xs b/\R (kG K a b xs.length) H1
theorem Xr (K:W.Frag) {a:Expr} {ta:TA} {p pos:Pos} (hg:Gl X "enumerate") (hm:X.mg "enumerate" = none) (ha:PA X [a] ta) (hK:X.K=K:=by rfl) (hs:starEach [a] X.env=[(false,eval a X.env)]:=by rfl):PI X (.Tuple elts x1 tpos) (.Call (.Name "enumerate" p) [a] [] pos) (jR K ta):=by
 subst hK;intro pins s σ H R I h;refine Call_ (Fb I hg hm PyProof.Rows.Boot.«enumerate» (PyProof.Rows.callWith_type1 (CQ (ha pos pins s σ H _ I h) fun us s1 ⟨vs,H1,I1,r1,q1⟩=>?_) hs rfl));obtain ⟨l,b,xs,e,hq,q⟩:=q1;subst e;cases r1 with
 | cons r rr =>
  cases rr;cases r;obtain ⟨its,rv,pl,hz⟩:=I1.sqB hq;refine TR pl fun h' hE hI hsz hk=>?_
  refine wpAny_pyIter_enum (s:={ s1 with heap:=h' }) hE ?_;refine ⟨s1.heap.objs.size+1,[s1.heap.objs.size+1,s1.heap.objs.size],_,_,H1,rfl,I1.kept (t':=s1.toks) hk,SO l _ _ b xs.length (Nat.succ_ne_self _) (Nat.ne_of_lt (Nat.lt_succ_of_lt hz)) (Nat.ne_of_lt hz),⟨⟨_,hE⟩,hI,Nat.zero_le _⟩,fun c hb=>?_,q⟩;have hb':s1.heap.objs.size<=c:=by
   rcases List.mem_cons.mp hb with z | z
   ·rw [z];exact Nat.le_succ _
   ·rw [List.mem_singleton.mp z];exact Nat.le_refl _
  exact I1.fpOk hb' (I1.hok.fresh hb')
end
section
variable {X:Cx} {p1 p2 pos1 pos2:Pos} {es:List Expr} {e:Expr} {ta:TA}
abbrev Wv (ta:TA):TE:=fun σ H Q=>ta σ H fun vs H1=>∃ (i j:Int),(vs=[.int j]/\i=0\/vs=[.int i,.int j])/\(-(2 ^ 62)<=i/\i < 2 ^ 62/\-(2 ^ 62)<=j/\j < 2 ^ 62)/\(j - i).toNat<=1000000/\∀ l,H1 l=none->Q (.ref l) (upd H1 l (.lst ((List.range (j - i).toNat).map fun k=>.int (i+(k:Nat)))))
theorem Np {A:Around} {E:Value->Shared->Prop} {pins:List (Addr×Obj)} {σ:St} {H:Hp} {s:Shared} {Q:VK} {i j:Int} {t u v:Tok} {tk:Nat} (hh:A.handled=none) (I:Inv X pins σ H s) (h1:-(2 ^ 62)<=i) (h2:i < 2 ^ 62) (h3:-(2 ^ 62)<=j) (h4:j < 2 ^ 62) (hl:(j - i).toNat<=1000000)
    (q:∀ l,H l=none->Q (.ref l) (upd H l (.lst ((List.range (j - i).toNat).map fun k=>.int (i+(k:Nat)))))) :
    wpAny (model X.prog X.w) A (call (.type "list") [.ref s.heap.objs.size]) (fun v s'=>∃ x H',Inv X pins σ H' s'/\RelV x v/\Q x H') E { s with heap:=s.heap.push { cls:=.type "range", data:=.fields #[.int i t,.int j u,.int 1 v] },toks:=tk }:=by
  have hr:Builtin.Range.rangeSize i j 1=((j - i).toNat:Nat):=by rw [rangeSize_one];split<;>omega
  refine call_list_range (n:=(j - i).toNat) hh (IsRange.new ..) (small_one h1 h2 h3 h4) hr (by omega) fun h' tk' acc c' hk eh hacc=>?_
  have kp:∀ b o,s.heap.get? b=some o->h'.get? b=some o:=fun b o e=>hk b o (Heap.get?_push_of_some _ e)
  have hsz:(s.heap.push { cls:=.type "range", data:=.fields #[.int i t,.int j u,.int 1 v] }).objs.size=s.heap.objs.size+1:=Heap.size_push ..
  have hv:Am ((List.range (j - i).toNat).map fun k=>V.int (i+(k:Nat))) acc.toList:=by
    have:∀ (n m:Nat) (l:List Value),l.length=n->(∀ (q:Nat) (v:Value),l[q]?=some v->∃ t,v=.int (i+((m+q:Nat):Int)) t)->Am ((List.range' m n).map fun k=>V.int (i+(k:Nat))) l:=by
      intro n
      induction n with
      | zero=>intro m l e _;cases l with | nil=>exact .nil | cons a b=>cases e
      | succ n ih =>
        intro m l e h;cases l with
        | nil=>cases e
        | cons a b =>
          rw [List.range'_succ,List.map_cons];refine .cons ?_ (ih (m+1) b (by simpa using e) fun q v hv=>?_)
          · obtain ⟨t,rfl⟩:=h 0 a rfl;exact ⟨t,rfl⟩
          · obtain ⟨t,rfl⟩:=h (q+1) v (by simpa using hv);exact ⟨t,by rw [Nat.add_assoc,Nat.add_comm 1 q]⟩
    rw [List.range_eq_range'];refine this (j - i).toNat 0 acc.toList (by simp [hacc.1]) fun q v hv=>?_
    obtain ⟨t,e⟩:=hacc.2 q v (by simpa using hv);exact ⟨t,by rw [e];simp⟩
  refine ⟨.ref _,_,I.laid (t':=tk') kp (by rw [hsz];exact Nat.le_succ _) (show CZ X.prog X.w _ h' _ (.lst ((List.range (j - i).toNat).map fun k=>.int (i+(k:Nat)))) from ⟨by rw [List.length_map,List.length_range];exact Nat.le_trans hl (show 1000000<=sizeLine by decide),acc.toList,c',hv,by rw [eh]⟩),rfl,q _ (I.hok.fresh (by rw [hsz];exact Nat.le_succ _))⟩
theorem Si (hc:X.calm=true) (hgL:Gl X "list") (hmL:X.mg "list" = none) (hgR:Gl X "range") (hmR:X.mg "range" = none) (ha:PA X (e::es) ta)
    (hs1:starEach [.Call (.Name "range" p2) (e::es) [] pos2] X.env=(false,eval (.Call (.Name "range" p2) (e::es) [] pos2) X.env)::starEach [] X.env:=by rfl)
    (hpl1:(backTo pos1 (starEach [] X.env)).any (·.1)=false:=by rfl)
    (hs2:starEach (e::es) X.env=(false,eval e X.env)::starEach es X.env:=by rfl) (hpl2:(backTo pos2 (starEach es X.env)).any (·.1)=false:=by rfl) :
    PE X (.Call (.Name "list" p1) [.Call (.Name "range" p2) (e::es) [] pos2] [] pos1) (Wv ta):=by
  intro pins s σ H Q I h;refine wpAny_Call_Name_kw (Fb I hgL hmL PyProof.Rows.Boot.«list» ?_ (by decide) (by decide));refine PyProof.Rows.callWith_type1 ?_ hs1 hpl1;rw [hs1]
  show wpAny _ _ (spliced ((false,eval (.Call (.Name "range" p2) (e::es) [] pos2) X.env)::backTo pos1 (starEach [] X.env))) _ _ s
  refine Calls.spliced_cons ?_;refine wpAny_Call_Name_kw (Fb I hgR hmR boot_range ?_ (by decide) (by decide));refine PyProof.Rows.callWith_type1 (CQ (ha pos2 pins s σ H _ I h) fun us s1 ⟨vs,H1,I1,r1,q1⟩=>?_) hs2 hpl2;obtain ⟨i,j,ev,⟨b1,b2,b3,b4⟩,hl,q⟩:=q1;rcases ev with ⟨ev,rfl⟩ | ev
  · subst ev;cases r1 with
    | cons r rr =>
      cases rr;obtain ⟨t,rfl⟩:=r;refine call_range_1 (Calls.spliced_nil ?_);exact Np (I1.ok.hd hc) I1 b1 b2 b3 b4 hl q
  · subst ev;cases r1 with
    | cons r rr =>
      cases rr with
      | cons r' rr =>
        cases rr;obtain ⟨t,rfl⟩:=r;obtain ⟨t',rfl⟩:=r';refine call_range_2 (Calls.spliced_nil ?_);exact Np (I1.ok.hd hc) I1 b1 b2 b3 b4 hl q
end
end L2
namespace Q
open PySem L2
def Iu (d:Dt):Option (List Dt):=match d with
 | .str l=>some (l.map fun c=>.str [c])
 | d=>items d
def Az (f:Ev Dt) (m:M):Option (List Dt×M):=do
 let (d,m') <- f m
 let ds <- Iu d
 some (ds,m')
def TC (f:Ev Dt) (m:M):Option (List Dt×M):=do
 let (d,m') <- f m
 match d with
 | .lst _ ds=>bif cps ds then some (ds.reverse,m') else none
 | _=>none
def IF (f:Ev Dt) (m:M):Option (List Dt×M):=do
 let (d,m') <- f m
 let ds <- items d
 some (FF 0 ds,m')
section
variable {K:W.Frag} {g:G} {H:Hp}
theorem gS {l:List Nat} {Ph:Fp}:Yl K (nU (tx l)) (l.map fun c=>.str [c]) Ph g H:=by
 intro g2 H2 st;have ec:∀ i:Nat,(tx l).cps[i]?=l[i]?:=fun i=>by show l.toArray[i]?=l[i]?;simp
 refine ⟨fun i d e=>?_,fun i hi=>?_⟩
 ·rw [List.getElem?_map] at e;cases q:l[i]? with
  | none=>rw [q] at e;cases e
  | some c =>
   rw [q] at e;simp only [Option.map_some,Option.some.injEq] at e;subst e;refine ⟨⟨c,by rw [ec,q]⟩,fun x H3 y=>?_⟩;obtain ⟨rfl,c',e',rfl⟩:=y;rw [ec,q] at e';cases e';exact CO.old (by unfold Rep;exact ⟨rfl,fun _ z=>z⟩)
 ·show (tx l).cps[i]?=none;rw [ec];rw [List.length_map] at hi;exact List.getElem?_eq_none hi
theorem Wd {a:Addr} {b:Bool} {ds:List Dt} {Ph:Fp} (h:∀ g2 H2,HB g H Ph g2 H2->∃ vs,II K H2 a vs b/\vs.length=ds.length/\∀ (i:Nat) (x:Dt),ds[i]?=some x->∃ u,vs[i]?=some u/\Rep K g2 H2 x u BS):Yl K (kG K a b ds.length) (FF 0 ds) Ph g H:=by
 intro g2 H2 st;obtain ⟨vs,sq,hl,hr⟩:=h g2 H2 st;refine ⟨fun i d e=>?_,fun i hi=>⟨vs,sq,hl,by rw [ON] at hi;exact hi⟩⟩;obtain ⟨d',e',rfl⟩:=OO ds 0 i d e;obtain ⟨v,ev,rv⟩:=hr i d' e';refine ⟨⟨vs,v,sq,hl,ev⟩,fun x H3 y=>?_⟩;obtain ⟨p,w,hp,rfl,rfl,y⟩:=y;have:=y vs sq;rw [ev] at this;cases this;have ri:Rep K g2 H2 (.int ((0+i:Nat):Int)) (.int (i:Nat)) BS:=by unfold Rep;exact ⟨by rw [Nat.zero_add],fun _ z=>z⟩
 have rs:AG K g2 H2 [.int ((0+i:Nat):Int),d'] [.int (i:Nat),v] BS:=(AG.cons ri (AG.cons rv AG.nil fun _ z=>z.elim) fun _ z=>z.elim).iff fun a=>⟨fun z=>z.elim,fun z=>z.elim id fun z=>z.elim id id⟩
 exact CO.tupNew hp rs
end
section
variable {X:Cx} {tg e a:Expr} {elts:List Expr} {x1:Nat} {tpos p pos p1 p2 pos1 pos2:Pos} {f:Ev Dt} {oa:Om} {es:List Expr} {os:List Om}
theorem cG {K:W.Frag} {g:G} {m m1:M} {P:Fp} {H:Hp} {σ:St} {d:Dt} {Q:List V->Hp->Prop} (r:Rel K g H m σ P) (e1:f m=some (d,m1))
    (k:∀ g' P' Pv v H',Step g P H g' (fun a=>P' a\/Pv a) H'->Rep K g' H' d v Pv->Rel K g' H' m1 σ P'->Bj P' Pv->Q [v] H'):JO K [.ev f] σ H Q:=by
  have e1':AV [.ev f] m=some ([d],m1):=by simp [AV,e1]
  refine Ba [.ev f] r e1' fun g' P' Pv vs H' s rs r1 nn=>?_
  have rp:=AU.reps rfl rs;unfold AG at rp;obtain ⟨v,vr,Pa,Pb,rfl,h1,h2,h3,h4⟩:=rp;unfold AG at h2;obtain ⟨rfl,h2⟩:=h2;exact k g' P' Pv v H' s (h1.iff fun a=>⟨fun z=>(h4 a).mp z |>.elim id fun z=>(h2 a z).elim,fun z=>(h4 a).mpr (.inl z)⟩) r1 nn
theorem bD {g:G} {H:Hp} {P:Fp}:HB g H P g H:=⟨BS,BS,Step.refl,fun _ z=>z.elim,fun _ _ z=>z⟩
theorem Bn (h:QE X e f):QI X tg e (Az f):=⟨PI.imp (bt h.h) fun σ H R q=>by
 obtain ⟨g,m,P,r,ds,m',e,k⟩:=q;simp only [Az,Option.bind_eq_bind,Option.bind_eq_some_iff,Prod.exists,Option.some.injEq,Prod.mk.injEq] at e;obtain ⟨d,m1,e1,ds',e2,rfl,rfl⟩:=e;refine ⟨g,m,P,r,d,m1,e1,fun g' P' Pv v H' s rv r1 n=>?_⟩;cases d with
 | str l =>
  simp only [Iu.eq_def,Option.some.injEq] at e2;subst e2;have rv':=rv;unfold Rep at rv';obtain ⟨rfl,_⟩:=rv';exact .inr ⟨_,rfl,k g' P' Pv H' _ s r1 n gS⟩
 | tup es =>
  have e2:items (.tup es)=some ds':=e2;simp only [items.eq_def] at e2;cases c:cps es with
  | false=>rw [c] at e2;cases e2
  | true =>
   rw [c] at e2;cases e2;obtain ⟨a,vs,rfl,h1,h2⟩:=rv.tup;exact .inl ⟨a,vs,rfl,.inr ⟨h1,k g' P' Pv H' _ s r1 n (gR rv c)⟩⟩
 | lst o es =>
  have e2:items (.lst o es)=some ds':=e2;simp only [items.eq_def] at e2;cases c:cps es with
  | false=>rw [c] at e2;cases e2
  | true =>
   rw [c] at e2;cases e2;obtain ⟨a,vs,P1,rfl,h1,h2⟩:=rv.lst;exact .inl ⟨a,vs,rfl,.inl ⟨.inl (.inl h1),k g' P' Pv H' _ s r1 n (aw rv c)⟩⟩
 | scr ns =>
  simp only [Iu.eq_def,items.eq_def,Option.some.injEq] at e2;subst e2;obtain ⟨a,rfl,h1⟩:=rv.scr;exact .inl ⟨a,_,rfl,.inl ⟨h1,k g' P' Pv H' _ s r1 n (gT rv)⟩⟩
 | _=>cases e2⟩
theorem Xf (hg:Gl X "enumerate") (hm:X.mg "enumerate" = none) (h:QE X e f) (hs:starEach [e] X.env=[(false,eval e X.env)]:=by rfl):QI X (.Tuple elts x1 tpos) (.Call (.Name "enumerate" p) [e] [] pos) (IF f):=⟨PI.imp (Xr X.K hg hm (AA (AC h) AE hs).h rfl hs) fun σ H R q=>by
 obtain ⟨g,m,P,r,ds,m',e,k⟩:=q;simp only [IF,Option.bind_eq_bind,Option.bind_eq_some_iff,Prod.exists,Option.some.injEq,Prod.mk.injEq] at e;obtain ⟨d,m1,e1,es,e2,rfl,rfl⟩:=e;refine cG r e1 fun g' P' Pv v H' s h1 r1 nn=>?_
 obtain ⟨a,b,rfl,q⟩:=GI h1 e2;obtain ⟨ws,sq,hl,_⟩:=q g' H' bD;refine ⟨a,b,ws,rfl,sq,?_⟩;rw [hl];exact k g' P' Pv H' _ s r1 nn (Wd q)⟩
def Ez (ds:List Dt):Option Dt:=match ds with
 | [.int j]=>if small j=true/\j<=1000000 then some (.lst true ((List.range j.toNat).map fun k=>.int (k:Nat))) else none
 | [.int i,.int j]=>if (small i && small j)=true/\j - i<=1000000 then some (.lst true ((List.range (j - i).toNat).map fun k=>.int (i+(k:Nat)))) else none
 | _=>none
def XZ:kE:=fun vs H1 Q=>∃ (i j:Int),(vs=[.int j]/\i=0\/vs=[.int i,.int j])/\(-(2 ^ 62)<=i/\i < 2 ^ 62/\-(2 ^ 62)<=j/\j < 2 ^ 62)/\(j - i).toNat<=1000000/\∀ l,H1 l=none->Q (.ref l) (upd H1 l (.lst ((List.range (j - i).toNat).map fun k=>.int (i+(k:Nat)))))
theorem Ll {i:Int} (h:small i=true):-(2 ^ 62)<=i/\i < 2 ^ 62:=by
 simp only [small,Bool.and_eq_true,decide_eq_true_eq] at h;omega
theorem Nm {K:W.Frag} {g:G} {H:Hp}:∀ ns:List Int,AG K g H (ns.map .int) (ns.map .int) BS
 | []=>AG.nil
 | n::ns=>(AG.cons (P1:=BS) (by unfold Rep;exact ⟨rfl,fun _ z=>z⟩) (Nm ns) fun _ z=>z.elim).iff fun a=>⟨fun z=>z.elim,fun z=>z.elim id id⟩
theorem Sg {K:W.Frag}:Bc K Ez XZ:=by
 intro g H ds vs d Q zd ra e k;have fin:∀ (i j:Int),(∀ v H',CO K g H (.lst true ((List.range (j - i).toNat).map fun k=>.int (i+(k:Nat)))) v H'->Q v H')->∀ l,H l=none->Q (.ref l) (upd H l (.lst ((List.range (j - i).toNat).map fun k=>.int (i+(k:Nat))))):=fun i j kk l hl=>by
  have:=Nm (K:=K) (g:=g) (H:=H) ((List.range (j - i).toNat).map fun k:Nat=>i+(k:Int));simp only [List.map_map] at this;exact kk _ _ (CO.lst zd hl this)
 match ds,e with
 | [.int j],e =>
  simp only [Ez.eq_def] at e;split at e
  ·rename_i c;simp only [Option.some.injEq] at e;subst e;unfold RA at ra;obtain ⟨v,r,P,rfl,h1,h2⟩:=ra;unfold RA at h2;subst h2;unfold Rep at h1;obtain ⟨rfl,_⟩:=h1;have b:=Ll c.1;refine ⟨0,j,.inl ⟨rfl,rfl⟩,by omega,by omega,fin 0 j fun v H' n=>k v H' ?_⟩;simpa using n
  ·cases e
 | [.int i,.int j],e =>
  simp only [Ez.eq_def] at e;split at e
  ·rename_i c;simp only [Option.some.injEq] at e;subst e;unfold RA at ra;obtain ⟨v,r,P,rfl,h1,h2⟩:=ra;unfold RA at h2;obtain ⟨v',r',P',rfl,h3,h4⟩:=h2;unfold RA at h4;subst h4;unfold Rep at h1 h3;obtain ⟨rfl,_⟩:=h1;obtain ⟨rfl,_⟩:=h3;rw [Bool.and_eq_true] at c;have b:=Ll c.1.1;have b':=Ll c.1.2;exact ⟨i,j,.inr rfl,by omega,by omega,fin i j k⟩
  ·cases e
theorem VY (hc:X.calm=true) (hgL:Gl X "list") (hmL:X.mg "list" = none) (hgR:Gl X "range") (hmR:X.mg "range" = none) (ha:QA X (a::es) os)
    (hs1:starEach [.Call (.Name "range" p2) (a::es) [] pos2] X.env=(false,eval (.Call (.Name "range" p2) (a::es) [] pos2) X.env)::starEach [] X.env:=by rfl)
    (hpl1:(backTo pos1 (starEach [] X.env)).any (·.1)=false:=by rfl)
    (hs2:starEach (a::es) X.env=(false,eval a X.env)::starEach es X.env:=by rfl) (hpl2:(backTo pos2 (starEach es X.env)).any (·.1)=false:=by rfl) :
    QE X (.Call (.Name "list" p1) [.Call (.Name "range" p2) (a::es) [] pos2] [] pos1) (AB Ez os):=⟨PE.imp (Si hc hgL hmL hgR hmR ha.h hs1 hpl1 hs2 hpl2) fun _ _ _ h=>DH Sg h⟩
end
noncomputable def JV (xs ds:List Dt):Option (Dt×List Dt):=match ds with
 | [.int i]=>if -(2 ^ 63)<=i/\i < 2 ^ 63 then (seqIndex? i xs.length).bind fun k=>(xs[k]?).map fun d=>(d,xs.eraseIdx k) else none
 | _=>none
noncomputable def kJ (xs ds:List Dt):Option (Dt×List Dt):=match ds with | []=>some (.non,xs.reverse) | _=>none
section
variable {K:W.Frag}
theorem AG.join {g:G} {H:Hp}:∀ {xs ys:List Dt} {us ws:List V} {P1 P2:Fp},AG K g H xs us P1->AG K g H ys ws P2->Bj P1 P2->AG K g H (xs++ys) (us++ws) fun a=>P1 a\/P2 a
 | [],ys,us,ws,P1,P2,h1,h2,n=>by
  unfold AG at h1;obtain ⟨rfl,h1⟩:=h1;exact h2.iff fun a=>⟨fun z=>z.elim (fun z=>(h1 a z).elim) id,.inr⟩
 | d::xs,ys,us,ws,P1,P2,h1,h2,n=>by
  unfold AG at h1;obtain ⟨v,r,Q1,Q2,rfl,k1,k2,k3,k4⟩:=h1;have:=AG.cons k1 (AG.join k2 h2 fun a q z=>n a ((k4 a).mpr (.inr q)) z) fun a q z=>z.elim (fun z=>k3 a q z) fun z=>n a ((k4 a).mpr (.inl q)) z
  refine this.iff fun a=>?_
  rw [k4 a];exact or_assoc
theorem YK:ag K JV XY:=by
  intro g H xs vs Px a ds us Pv r ys Q zd ha hz hx hxa hd hda dj e k;unfold JV at e;split at e
  · rename_i i;split at e
    · rename_i hb;simp only [Option.bind_eq_some_iff,Option.map_eq_some_iff,Prod.mk.injEq] at e;obtain ⟨n,en,d,ed,rfl,rfl⟩:=e;unfold AG at hd;obtain ⟨v,rr,Q1,Q2,rfl,l1,l2,l3,l4⟩:=hd;unfold AG at l2;obtain ⟨rfl,l2⟩:=l2;unfold Rep at l1;obtain ⟨rfl,_⟩:=l1;have hn:n < xs.length:=(List.getElem?_eq_some_iff.mp ed).1;have ex:xs=xs.take n++(d::xs.drop (n+1)):=by
        have:=List.getElem?_eq_some_iff.mp ed;rw [<- this.2,List.getElem_cons_drop,List.take_append_drop]
      have el:=hx.len;rw [ex] at hx;obtain ⟨us,ws,P1,P2,rfl,k1,k2,k3,k4⟩:=AG.split hx;unfold AG at k2;obtain ⟨v,rr,Q1',Q2',rfl,m1,m2,m3,m4⟩:=k2;have hu:us.length=n:=by rw [<- k1.len,List.length_take];omega
      have eu:(us++v::rr)[n]?=some v:=by rw [List.getElem?_append_right (by omega),hu];simp
      have ee:(us++v::rr).eraseIdx n=us++rr:=by
        rw [List.eraseIdx_append_of_length_le (by omega),hu,Nat.sub_self];rfl
      have ee2:xs.eraseIdx n=xs.take n++xs.drop (n+1):=List.eraseIdx_eq_take_drop_succ _ _;refine ⟨a,us++v::rr,i,n,v,rfl,rfl,ha,hb.1,hb.2,?_,eu,?_⟩
      · rw [<- el];exact en
      · rw [ee];rw [ee2] at k;have st:Step g (fun b=>b=a) H g BS (upd H a (.lst (us++rr))):=Step.upd (by rw [ha];simp) fun _ z=>z.elim
        have oka:FpOk g H fun b=>b=a:=fun b q=>by subst q;exact ⟨by rw [ha];trivial,hz⟩
        have in1:∀ b,P1 b->Px b:=fun b q=>(k4 b).mpr (.inl q)
        have in2:∀ b,Q1' b->Px b:=fun b q=>(k4 b).mpr (.inr ((m4 b).mpr (.inl q)))
        have in3:∀ b,Q2' b->Px b:=fun b q=>(k4 b).mpr (.inr ((m4 b).mpr (.inr q)))
        refine k v (us++rr) Q1' (fun b=>P1 b\/Q2' b) (AG.join (k1.held st oka fun b q z=>hxa (z▸in1 b q)) (m2.held st oka fun b q z=>hxa (z▸in3 b q)) fun b q z=>k3 b q ((m4 b).mpr (.inr z))) (m1.held st oka fun b q z=>hxa (z▸in2 b q)) ?_ fun b q=>.inl ?_
        · exact fun b q z=>q.elim (fun q=>k3 b q ((m4 b).mpr (.inl z))) fun q=>m3 b z q
        · exact q.elim (fun q=>q.elim (in1 b) (in3 b)) (in2 b)
    · cases e
  · cases e
end
noncomputable def lZ (ds:List Dt):Option (List Dt):=match ds with
 | [.int i,.int j,.int k]=>if k = -1/\(-1000000<=i/\i < 1000000/\-1000000<=j/\j < 1000000) then some ((List.range (i - j).toNat).map fun q=>.int (i - (q:Nat))) else none
 | _=>none
def pE (o o' o'':Om) (m:M):Option (List Dt×M):=do
 let (ds,m') <- AV [o,o',o''] m
 let is <- lZ ds
 some (is,m')
section
end
mutual
noncomputable def Dt.nol:Dt->Bool
 | .tup ds=>So ds
 | .lst _ _=>false
 | .dic _ _=>false
 | .dti _ _=>false
 | .ref _=>false
 | _=>true
noncomputable def So:List Dt->Bool
 | []=>true
 | d::ds=>d.nol && So ds
end
section
variable {K:W.Frag} {H:Hp}
mutual
theorem Rep.nol {g g2:G}:∀ {d:Dt} {v:V} {P:Fp},Rep K g H d v P->d.nol=true->Rep K g2 H d v BS
 | .non,v,P,h,_=>by unfold Rep at h ⊢;exact ⟨h.1,fun _ z=>z⟩
 | .bl b,v,P,h,_=>by unfold Rep at h ⊢;exact ⟨h.1,fun _ z=>z⟩
 | .int i,v,P,h,_=>by unfold Rep at h ⊢;exact ⟨h.1,fun _ z=>z⟩
 | .str l,v,P,h,_=>by unfold Rep at h ⊢;exact ⟨h.1,fun _ z=>z⟩
 | .ty n,v,P,h,_=>by unfold Rep at h ⊢;exact ⟨h.1,fun _ z=>z⟩
 | .mtp n,v,P,h,_=>by unfold Rep at h ⊢;exact ⟨h.1,fun _ z=>z⟩
 | .scr ns,v,P,h,_=>by unfold Rep at h ⊢;exact ⟨h.1,fun _ z=>z⟩
 | .tup ds,v,P,h,c=>by
  unfold Rep at h ⊢;obtain ⟨a,vs,e,h1,h2⟩:=h;exact ⟨a,vs,e,h1,AG.nol h2 (by unfold Dt.nol at c;exact c)⟩
 | .lst o ds,v,P,h,c=>by unfold Dt.nol at c;cases c
 | .dic o ds,v,P,h,c=>by unfold Dt.nol at c;cases c
 | .dti o ds,v,P,h,c=>by unfold Dt.nol at c;cases c
 | .ref k,v,P,h,c=>by unfold Dt.nol at c;cases c
theorem AG.nol {g g2:G}:∀ {ds:List Dt} {vs:List V} {P:Fp},AG K g H ds vs P->So ds=true->AG K g2 H ds vs BS
 | [],vs,P,h,_=>by unfold AG at h ⊢;exact ⟨h.1,fun _ z=>z⟩
 | d::ds,vs,P,h,c=>by
  unfold AG at h;unfold So at c;rw [Bool.and_eq_true] at c;obtain ⟨v,r,P1,P2,rfl,h1,h2,h3,h4⟩:=h;exact (AG.cons (Rep.nol h1 c.1) (AG.nol h2 c.2) fun _ z=>z.elim).iff fun a=>⟨fun z=>z.elim,fun z=>z.elim id id⟩
end
theorem AU.frz {g:G} {σ:St} {m:M} {P Pall:Fp} (r:Rel K g H m σ P) (hP:∀ a,P a->Pall a) (hm:∀ a,Pall a->gQ (H a)):∀ {os:List Om} {ds:List Dt} {vs:List V} {Pv:Fp},AU K g H m.ρ σ os ds vs Pv->(∀ a,Pv a->Pall a)->AG K (g.add Pall) H (ds.map Dt.fz) vs BS
 | [],ds,vs,Pv,h,_=>by
  unfold AU at h;obtain ⟨rfl,rfl,_⟩:=h;exact AG.nil
 | .ev f::os,ds,vs,Pv,h,hv=>by
  unfold AU at h;obtain ⟨d,dr,v,vr,P1,P2,rfl,rfl,h1,h2,h3,h4⟩:=h;exact (AG.cons (h1.freeze (fun a q=>hv a ((h4 a).mpr (.inl q))) hm) (AU.frz r hP hm h2 fun a q=>hv a ((h4 a).mpr (.inr q))) fun _ z=>z.elim).iff fun a=>⟨fun z=>z.elim,fun z=>z.elim id id⟩
 | .rf i::os,ds,vs,Pv,h,hv=>by
  unfold AU at h;obtain ⟨d,dr,v,vr,rfl,rfl,h1,h2,h3⟩:=h;obtain ⟨v',P1,e,k,s⟩:=r.see h2;rw [h1] at e;cases e;exact (AG.cons (k.freeze (fun a q=>hP a (s a q)) hm) (AU.frz r hP hm h3 hv) fun _ z=>z.elim).iff fun a=>⟨fun z=>z.elim,fun z=>z.elim id id⟩
end
def CB (Φ:Fn) (n:Nat) (os:List Om) (m:M):Option (Dt×M):=do
 let (ds,m1) <- AV os m
 if ds.length=n then do
  let (d,_,_) <- Φ (ds.map Dt.fz) m1.S
  if d.nol=true then some (d,m1) else none
 else none
theorem WO {K:W.Frag} {n:Nat} {Φ:Fn} {os:List Om} {σ:St} {H:Hp} {Q:VK} (h:tq K (CB Φ n os) σ H Q):JO K os σ H fun vs H1=>ER K n [] Φ vs H1 Q E0:=by
 obtain ⟨g,m,P,r,d,m',e,k⟩:=h;simp only [CB,Option.bind_eq_bind,Option.bind_eq_some_iff,Prod.exists] at e;obtain ⟨ds,m1,e1,e⟩:=e;split at e
 ·rename_i hn;simp only [Option.bind_eq_some_iff,Prod.exists] at e;obtain ⟨d',bs,S',e2,e⟩:=e;split at e
  ·rename_i hnol;simp only [Option.some.injEq,Prod.mk.injEq] at e;obtain ⟨rfl,rfl⟩:=e;refine Ba os r e1 fun g' P' Pv vs H' s rs r1 n1=>?_
   have okP:=r1.fpOk;have okv:FpOk g' H' Pv:=by
    have go:∀ {os:List Om} {ds:List Dt} {vs:List V} {Pv:Fp},AU K g' H' m1.ρ σ os ds vs Pv->FpOk g' H' Pv:=by
     intro os
     induction os with
     | nil=>intro ds vs Pv h a q;unfold AU at h;exact (h.2.2 a q).elim
     | cons o os ih =>
      intro ds vs Pv h;cases o with
      | ev f =>
       unfold AU at h;obtain ⟨d,dr,v,vr,P1,P2,rfl,rfl,h1,h2,h3,h4⟩:=h;intro a q;exact ((h4 a).mp q).elim (fun q=>h1.fpOk a q) fun q=>ih h2 a q
      | rf i =>
       unfold AU at h;obtain ⟨d,dr,v,vr,rfl,rfl,h1,h2,h3⟩:=h;exact ih h3
    exact go rs
   have ok:FpOk g' H' fun a=>P' a\/Pv a:=fun a q=>q.elim (okP a) (okv a)
   have rp:=AU.frz (Pall:=fun a=>P' a\/Pv a) r1 (fun _=>.inl) (fun a q=>(ok a q).1) rs fun _=>.inr
   have zd:Zd g' H':=r1.zd;have st:=Step.freeze ok;have zd2:=st.zd zd;obtain ⟨_,Q1,Q2,h1,h2,h3,h4⟩:=id r1;have eS:m1.S=[]:=h2.1;refine ⟨g'.add fun a=>P' a\/Pv a,ds.map Dt.fz,m1.S,BS,BS,by simpa using hn,zd2,rp,⟨eS,fun _ z=>z⟩,fun _ z=>z.elim,d',bs,S',e2,fun g2 H2 v Pw Pb Ps' s2 zd3 rv hb rst n2 n3 n4=>?_⟩;have sm:af H' H2:=fun b o hbo=>s2.keep b o hbo fun z=>z.elim id id
   have ss:=Step.same (g:=g') (P:=BS) sm;refine k g' P' BS v H2 ?_ (rv.nol hnol) (r1.held ss (fun _ z=>z.elim) fun _ _ z=>z) fun _ _ z=>z
   exact (s.trans (Step.same sm)).sub (fun _ q=>q) fun a q=>q.elim .inl False.elim
  ·cases e
 ·cases e
section
variable {X:Cx} {k j n:Nat} {x:Str} {ps:List Str} {Φ:Fn} {p pos:Pos} {e:Expr} {es:List Expr} {os:List Om}
theorem Df (F:Fx X.prog X.w X.K X.mg X.base k x ps (ER X.K n [] Φ)) (hr:Room j X.A) (hkj:k<=j) (hg:Gl X x) (ha:QA X (e::es) os) (hdb:(x == ("__debug__" : Str))=false:=by decide)
    (he:starEach (e::es) X.env=(false,eval e X.env)::starEach es X.env:=by rfl) (hpl:(backTo pos (starEach es X.env)).any (·.1)=false:=by rfl):QE X (.Call (.Name x p) (e::es) [] pos) (CB Φ n os):=⟨PE.imp (eQ F hr hkj hg ha.h hdb he hpl) fun _ _ _ h=>WO h⟩
end
def Gg (f:Ev Dt) (m:M):Option (Dt×M):=do
 let (d,m') <- f m
 match d with
 | .bl b=>some (.bl b,m')
 | _=>none
theorem Ox {X:Cx} {e:Expr} {f:Ev Dt} (h:QE X e f):QE X e (Gg f):=⟨PE.imp h.h fun σ H Q q=>by
 obtain ⟨g,m,P,r,d,m',e,k⟩:=q;simp only [Gg,Option.bind_eq_bind,Option.bind_eq_some_iff,Prod.exists] at e;obtain ⟨d',m1,e1,e⟩:=e;split at e
 ·simp only [Option.some.injEq,Prod.mk.injEq] at e;obtain ⟨rfl,rfl⟩:=e;exact ⟨g,m,P,r,_,m1,e1,k⟩
 ·cases e⟩
def Ak (d:Dv):Option (List Dv):=match d with
 | .str l=>some (l.map fun c=>.str [c])
 | d=>Bg d
theorem Vq (l:List Nat):Ar (l.map fun c=>Dv.str [c])=l.map fun c=>Dt.str [c]:=by rw [Cu,List.map_map];rfl
theorem Nw (o:Bool) (d:Dv):Iu (mk o d)=(Ak d).map Ar:=by
 have:=JY o d;cases d<;>simp only [mk] at this ⊢<;>first | exact this | simp only [Iu.eq_def,Ak.eq_def,Option.map_some,Vq]
theorem aD (f:Ev Dt) (m:M):Az f m=kB (f m) fun d m1=>(Iu d).bind fun ds=>some (ds,m1):=rfl
def Xy (d:Dt):Option (List Dt):=match d with | .lst _ ds=>bif cps ds then some ds.reverse else none | _=>none
noncomputable def qP (d:Dv):Option (List Dv):=match d with | .lst ds=>some ds.reverse | _=>none
theorem jg (f:Ev Dt) (m:M):TC f m=kB (f m) fun d m1=>(Xy d).bind fun ds=>some (ds,m1):=by
 unfold TC;refine kx fun d m1=>?_
 cases d<;>try rfl
 rename_i o ds;simp only [Xy.eq_def];cases cps ds<;>rfl
def MB (d:Dt):Option (List Dt):=(items d).map (FF 0)
def QY (d:Dv):Option (List Dv):=(Bg d).map (Jf 0)
theorem RM (o:Bool) (d:Dv):MB (mk o d)=(QY d).map Ar:=by
 simp only [MB,QY,JY,Option.map_map];cases Bg d with
 | none=>rfl
 | some ds=>simp [RI]
theorem cy (f:Ev Dt) (m:M):IF f m=kB (f m) fun d m1=>(MB d).bind fun ds=>some (ds,m1):=by
 unfold IF;refine kx fun d m1=>?_
 simp only [MB];cases items d<;>rfl
noncomputable def CV:List Dv->List Dv->List Dv
 | x::xs,y::ys=>.tup [x,y]::CV xs ys
 | _,_=>[]
noncomputable def EE:List Dv->List Dv->List Dv->List Dv
 | x::xs,y::ys,z::zs=>.tup [x,y,z]::EE xs ys zs
 | _,_,_=>[]
theorem RG:∀ xs ys:List Dv,EZ (Ar xs) (Ar ys)=Ar (CV xs ys)
 | x::xs,y::ys=>by simp only [Ar,EZ,CV,mk];rw [RG xs ys]
 | [],ys=>by simp only [Ar,EZ,CV]
 | x::xs,[]=>by simp only [Ar,EZ,CV]
theorem RF:∀ xs ys zs:List Dv,Dk (Ar xs) (Ar ys) (Ar zs)=Ar (EE xs ys zs)
 | x::xs,y::ys,z::zs=>by simp only [Ar,Dk,EE,mk];rw [RF xs ys zs]
 | [],ys,zs=>by simp only [Ar,Dk,EE]
 | x::xs,[],zs=>by simp only [Ar,Dk,EE]
 | x::xs,y::ys,[]=>by simp only [Ar,Dk,EE]
def Qx (ds:List Dt):Option (List Dt):=match ds with | [a,b]=>(items a).bind fun xs=>(items b).bind fun ys=>some (EZ xs ys) | _=>none
def Qw (ds:List Dt):Option (List Dt):=match ds with | [a,b,c]=>(items a).bind fun xs=>(items b).bind fun ys=>(items c).bind fun zs=>some (Dk xs ys zs) | _=>none
def OW (x y:Dv):Option (List Dv):=(Bg x).bind fun xs=>(Bg y).bind fun ys=>some (CV xs ys)
def OV (x y z:Dv):Option (List Dv):=(Bg x).bind fun xs=>(Bg y).bind fun ys=>(Bg z).bind fun zs=>some (EE xs ys zs)
theorem UL (a b:Bool) (x y:Dv):Qx [mk a x,mk b y]=(OW x y).map Ar:=by
 simp only [Qx.eq_def,OW,JY];cases Bg x<;>cases Bg y<;>simp [RG]
theorem UK (a b c:Bool) (x y z:Dv):Qw [mk a x,mk b y,mk c z]=(OV x y z).map Ar:=by
 simp only [Qw.eq_def,OV,JY];cases Bg x<;>cases Bg y<;>cases Bg z<;>simp [RF]
theorem jc (f g:Ev Dt) (m:M):Iy f g m=kB (AV [.ev f,.ev g] m) fun ds m1=>(Qx ds).bind fun zs=>some (zs,m1):=by
  unfold Iy;refine kx fun ds m1=>?_
  match ds with
  | []=>rfl
  | [a]=>rfl
  | [a, b] => simp only [Qx.eq_def]; cases items a <;> try rfl
              cases items b<;>rfl
  | a::b::c::r=>rfl
theorem jb (f g h:Ev Dt) (m:M):Iw f g h m=kB (AV [.ev f,.ev g,.ev h] m) fun ds m1=>(Qw ds).bind fun zs=>some (zs,m1):=by
  unfold Iw;refine kx fun ds m1=>?_
  match ds with
  | []=>rfl
  | [a]=>rfl
  | [a,b]=>rfl
  | [a, b, c] => simp only [Qw.eq_def]; cases items a <;> try rfl
                 cases items b<;>try rfl
                 cases items c<;>rfl
  | a::b::c::d::r=>rfl
def Ep (x:Dv):Option Dv:=match x with | .int j=>if small j=true/\j<=1000000 then some (.lst ((List.range j.toNat).map fun k=>.int (k:Nat))) else none | _=>none
def kQ (x y:Dv):Option Dv:=match x,y with | .int i,.int j=>if (small i && small j)=true/\j - i<=1000000 then some (.lst ((List.range (j - i).toNat).map fun k=>.int (i+(k:Nat)))) else none | _,_=>none
theorem KU (o:Bool) (x:Dv):Ez [mk o x]=(Ep x).map (mk true):=by
 cases x<;>(first | rfl | simp only [mk,Ez.eq_def,Ep.eq_def]);split
 ·have:=PP (Int.toNat ‹Int›) 0;simp only [Int.zero_add] at this;simp [mk,this]
 ·rfl
noncomputable def KN (x k:Dv):Option (Dv×Dv):=match x,k with
 | .lst xs,.int i=>if -(2 ^ 63)<=i/\i < 2 ^ 63 then (seqIndex? i xs.length).bind fun n=>(xs[n]?).map fun d=>(d,.lst (xs.eraseIdx n)) else none
 | _,_=>none
theorem cP (xs:List Dv) (n:Nat):(Ar xs)[n]?=(xs[n]?).map (mk false):=by rw [Cu,List.getElem?_map]
theorem Vo (xs:List Dv) (n:Nat):(Ar xs).eraseIdx n=Ar (xs.eraseIdx n):=by
 simp only [Cu,List.eraseIdx_eq_take_drop_succ,List.map_append,List.map_take,List.map_drop]
theorem RL (x k:Dv) (o:Bool) (m:M) (i:Nat):Ly JV (RY x) (some (mk true x)) [mk o k] m i=(KN x k).bind fun r=>some (mk false r.1,m.set i (some (mk true r.2))):=by
 unfold Ly;cases x<;>simp [RY.eq_def,KN.eq_def];cases k<;>simp [mk,Ve.eq_def,JV.eq_def];split
 ·rename_i xs j h;cases seqIndex? j xs.length with
  | none=>rfl
  | some n =>
   simp only [Option.bind_some,cP];cases xs[n]?<;>simp [mk,Vo]
 ·rfl
noncomputable def ml (x:Dv):Option Dv:=match x with | .lst xs=>some (.lst xs.reverse) | _=>none
noncomputable def qN (x y z:Dv):Option (List Dv):=match x,y,z with
 | .int i,.int j,.int k=>if k = -1/\(-1000000<=i/\i < 1000000/\-1000000<=j/\j < 1000000) then some ((List.range (i - j).toNat).map fun q=>.int (i - (q:Nat))) else none
 | _,_,_=>none
def tb (b:Bool):Dt:=mk true (.bl b)
theorem gN (b:Bool):aB (.bl b)=some b:=rfl
noncomputable def FI (f:Int->Int->Bool) (x y:Dv):Option Bool:=match x,y with | .int i,.int j=>some (f i j) | _,_=>none
abbrev kO:=FI fun i j=>decide (i < j)
abbrev mi:=FI fun i j=>decide (j < i)
abbrev qL:=FI fun i j=>decide (j<=i)
theorem US (f:Int->Int->Bool) (a b:Bool) (x y:Dv):MC f [mk a x,mk b y]=(FI f x y).map fun r=>mk true (.bl r):=by
 cases x<;>cases y<;>(first | rfl | simp only [mk,MC.eq_def,FI.eq_def,Option.map_none,Option.map_some])
def SB (neg:Bool) (x y:Dv):Option Bool:=if (x.cmp && y.cmp && decide (x.dep<=150))=true then some (if neg=true then !eqV x y else eqV x y) else none
abbrev WW:=SB false
abbrev WU:=SB true
theorem Yj (neg a b:Bool) (x y:Dv):Sk neg [mk a x,mk b y]=(SB neg x y).map fun r=>mk true (.bl r):=by
 rw [jB];unfold jy SB;split<;>rfl
def SA (neg:Bool) (e s:Dv):Option Bool:=match e,s with
 | .str x,.str l=>some (if neg=true then !VO x l else VO x l)
 | e,s=>match ax s with
  | some xs=>if (e.cmp && DX xs && decide (DW xs<=150))=true then some (if neg=true then !MF e xs else MF e xs) else none
  | none=>none
abbrev rD:=SA false
theorem Yi (neg a b:Bool) (x y:Dv):Xz neg [mk a x,mk b y]=(SA neg x y).map fun r=>mk true (.bl r):=by
 have e:jx neg x y=(SA neg x y).map Dv.bl:=by
  cases x<;>cases y<;>(first | rfl | simp only [jx.eq_def,SA.eq_def,ax.eq_def])<;>first | rfl | (split<;>rfl)
 rw [jA,e,Option.map_map];rfl
noncomputable def rB (x y:Dv):Option Bool:=match y with | .non=>some x.isNon | _=>none
noncomputable def qJ (x y:Dv):Option Bool:=match y with | .non=>some (!x.isNon) | _=>none
def Kq (x:Dv):Option Bool:=match x with | .lst xs=>(LV xs).map fun bs=>bs.all id | _=>none
def rE (x:Dv):Option Bool:=match x with | .lst xs=>(LV xs).map fun bs=>bs.any id | _=>none
theorem Yk (a:Bool) (x:Dv):PJ [mk a x]=(Kq x).map fun r=>mk true (.bl r):=by rw [jC];cases x<;>simp [jz.eq_def,Kq.eq_def,Option.map_map,Function.comp_def]
def Jl (x y:Dv):Option Bool:=match y with
 | .ty T=>if (["int", "bool", "str", "tuple", "list"].contains T)=true then (Qh x).map fun k=>RX k T else none
 | _=>none
theorem Yh (a b:Bool) (x y:Dv):Ki [mk a x,mk b y]=(Jl x y).map fun r=>mk true (.bl r):=by
 rw [iz];unfold jw Jl;cases y<;>try rfl
 simp only [];split
 ·cases Qh x<;>rfl
 ·rfl
noncomputable def dC (x y:Dv):Option Bool:=match x,y with
 | .int i,.int j=>some (decide (i<=j))
 | .str a,.str b=>some (!decide (b < a))
 | _,_=>none
theorem Yg (a b:Bool) (x y:Dv):Sj [mk a x,mk b y]=(dC x y).map fun r=>mk true (.bl r):=by rw [iy];cases x<;>cases y<;>rfl
mutual
noncomputable def Dv.nol:Dv->Bool
 | .tup ds=>Qg ds
 | .lst _=>false
 | .dti _=>false
 | _=>true
noncomputable def Qg:List Dv->Bool
 | []=>true
 | d::ds=>d.nol && Qg ds
end
mutual
theorem Su (o:Bool):∀ d:Dv,(mk o d).nol=d.nol
 | .non | .bl _ | .int _ | .str _ | .scr _ | .ty _ | .mtp _ | .dti _=>by simp only [mk,Dt.nol,Dv.nol]
 | .tup xs=>by simp only [mk,Dt.nol,Dv.nol];exact UH xs
 | .lst xs=>by simp only [mk,Dt.nol,Dv.nol]
theorem UH:∀ ds:List Dv,So (Ar ds)=Qg ds
 | []=>by simp only [Ar,So,Qg]
 | d::ds=>by simp only [Ar,So,Qg];rw [Su false d,UH ds]
end
theorem YH (b:Bool):(Dv.bl b).nol=true:=rfl
theorem QH (Φ:Fn) (n:Nat) (os:List Om) (m:M):CB Φ n os m=kB (AV os m) fun ds m1=>if ds.length=n then (Φ (ds.map Dt.fz) m1.S).bind fun r=>if r.1.nol=true then some (r.1,m1) else none else none:=rfl
theorem jm (f:Ev Dt) (m:M):Gg f m=kB (f m) fun d m1=>(QV d).bind fun b=>some (mk true (.bl b),m1):=by
 unfold Gg;refine kx fun d m1=>?_
 cases d<;>simp [QV.eq_def,mk]
theorem lp {α β:Type} (f:α->β) (a:α) (l:List α):(a::l).map f=f a::l.map f:=rfl
theorem ll {α β:Type} (f:α->β):([]:List α).map f=[]:=rfl
noncomputable def rA (d:Dv):Option Dv:=if d.nol=true then some d else none
noncomputable def pA (s:Option Bool):Option Dv:=(s).map fun r=>Dv.bl r
noncomputable def MH (s:Dv->Option Bool):Dv->Option Dv:=fun x0=>(s x0).map fun r=>Dv.bl r
theorem UV (s:Dv->Option Bool) (x0:Dv):MH s x0=(s x0).map fun r=>Dv.bl r:=rfl
noncomputable def oz (s:Dv->Option (Bool×Dv)):Dv->Option (Dv×Dv):=fun x0=>(s x0).map fun r=>(Dv.bl r.1,r.2)
noncomputable def oy (s:Dv->Dv->Option Bool):Dv->Dv->Option Dv:=fun x0 x1=>(s x0 x1).map fun r=>Dv.bl r
noncomputable def ox (s:Dv->Dv->Option (Bool×Dv)):Dv->Dv->Option (Dv×Dv):=fun x0 x1=>(s x0 x1).map fun r=>(Dv.bl r.1,r.2)
noncomputable def ow (s:Dv->Dv->Option (Bool×Dv×Dv)):Dv->Dv->Option (Dv×Dv×Dv):=fun x0 x1=>(s x0 x1).map fun r=>(Dv.bl r.1,r.2)
noncomputable def ou (s:Dv->Dv->Dv->Option Bool):Dv->Dv->Dv->Option Dv:=fun x0 x1 x2=>(s x0 x1 x2).map fun r=>Dv.bl r
noncomputable def ot (s:Dv->Dv->Dv->Option (Bool×Dv)):Dv->Dv->Dv->Option (Dv×Dv):=fun x0 x1 x2=>(s x0 x1 x2).map fun r=>(Dv.bl r.1,r.2)
noncomputable def oq (s:Dv->Dv->Dv->Option (Bool×Dv×Dv)):Dv->Dv->Dv->Option (Dv×Dv×Dv):=fun x0 x1 x2=>(s x0 x1 x2).map fun r=>(Dv.bl r.1,r.2)
noncomputable def BE (s:Dv->Dv->Dv->Dv->Option Bool):Dv->Dv->Dv->Dv->Option Dv:=fun x0 x1 x2 x3=>(s x0 x1 x2 x3).map fun r=>Dv.bl r
theorem UU (s:Dv->Dv->Dv->Dv->Option Bool) (x0 x1 x2 x3:Dv):BE s x0 x1 x2 x3=(s x0 x1 x2 x3).map fun r=>Dv.bl r:=rfl
noncomputable def om (s:Dv->Dv->Dv->Dv->Option (Bool×Dv)):Dv->Dv->Dv->Dv->Option (Dv×Dv):=fun x0 x1 x2 x3=>(s x0 x1 x2 x3).map fun r=>(Dv.bl r.1,r.2)
noncomputable def oj (s:Dv->Dv->Dv->Dv->Option (Bool×Dv×Dv)):Dv->Dv->Dv->Dv->Option (Dv×Dv×Dv):=fun x0 x1 x2 x3=>(s x0 x1 x2 x3).map fun r=>(Dv.bl r.1,r.2)
noncomputable def oi (s:Dv->Dv->Dv->Dv->Dv->Option Bool):Dv->Dv->Dv->Dv->Dv->Option Dv:=fun x0 x1 x2 x3 x4=>(s x0 x1 x2 x3 x4).map fun r=>Dv.bl r
noncomputable def og (s:Dv->Dv->Dv->Dv->Dv->Option (Bool×Dv)):Dv->Dv->Dv->Dv->Dv->Option (Dv×Dv):=fun x0 x1 x2 x3 x4=>(s x0 x1 x2 x3 x4).map fun r=>(Dv.bl r.1,r.2)
noncomputable def oZ (s:Dv->Dv->Dv->Dv->Dv->Option (Bool×Dv×Dv)):Dv->Dv->Dv->Dv->Dv->Option (Dv×Dv×Dv):=fun x0 x1 x2 x3 x4=>(s x0 x1 x2 x3 x4).map fun r=>(Dv.bl r.1,r.2)
noncomputable def oY (s:Dv->Dv->Dv->Dv->Dv->Dv->Option Bool):Dv->Dv->Dv->Dv->Dv->Dv->Option Dv:=fun x0 x1 x2 x3 x4 x5=>(s x0 x1 x2 x3 x4 x5).map fun r=>Dv.bl r
noncomputable def oX (s:Dv->Dv->Dv->Dv->Dv->Dv->Option (Bool×Dv)):Dv->Dv->Dv->Dv->Dv->Dv->Option (Dv×Dv):=fun x0 x1 x2 x3 x4 x5=>(s x0 x1 x2 x3 x4 x5).map fun r=>(Dv.bl r.1,r.2)
noncomputable def oW (s:Dv->Dv->Dv->Dv->Dv->Dv->Option (Bool×Dv×Dv)):Dv->Dv->Dv->Dv->Dv->Dv->Option (Dv×Dv×Dv):=fun x0 x1 x2 x3 x4 x5=>(s x0 x1 x2 x3 x4 x5).map fun r=>(Dv.bl r.1,r.2)
noncomputable def oV (s:Dv->Dv->Dv->Dv->Dv->Dv->Dv->Option Bool):Dv->Dv->Dv->Dv->Dv->Dv->Dv->Option Dv:=fun x0 x1 x2 x3 x4 x5 x6=>(s x0 x1 x2 x3 x4 x5 x6).map fun r=>Dv.bl r
noncomputable def oU (s:Dv->Dv->Dv->Dv->Dv->Dv->Dv->Option (Bool×Dv)):Dv->Dv->Dv->Dv->Dv->Dv->Dv->Option (Dv×Dv):=fun x0 x1 x2 x3 x4 x5 x6=>(s x0 x1 x2 x3 x4 x5 x6).map fun r=>(Dv.bl r.1,r.2)
noncomputable def oT (s:Dv->Dv->Dv->Dv->Dv->Dv->Dv->Option (Bool×Dv×Dv)):Dv->Dv->Dv->Dv->Dv->Dv->Dv->Option (Dv×Dv×Dv):=fun x0 x1 x2 x3 x4 x5 x6=>(s x0 x1 x2 x3 x4 x5 x6).map fun r=>(Dv.bl r.1,r.2)
noncomputable def oS (s:Dv->Dv->Dv->Dv->Dv->Dv->Dv->Dv->Option Bool):Dv->Dv->Dv->Dv->Dv->Dv->Dv->Dv->Option Dv:=fun x0 x1 x2 x3 x4 x5 x6 x7=>(s x0 x1 x2 x3 x4 x5 x6 x7).map fun r=>Dv.bl r
noncomputable def oR (s:Dv->Dv->Dv->Dv->Dv->Dv->Dv->Dv->Option (Bool×Dv)):Dv->Dv->Dv->Dv->Dv->Dv->Dv->Dv->Option (Dv×Dv):=fun x0 x1 x2 x3 x4 x5 x6 x7=>(s x0 x1 x2 x3 x4 x5 x6 x7).map fun r=>(Dv.bl r.1,r.2)
noncomputable def oQ (s:Dv->Dv->Dv->Dv->Dv->Dv->Dv->Dv->Option (Bool×Dv×Dv)):Dv->Dv->Dv->Dv->Dv->Dv->Dv->Dv->Option (Dv×Dv×Dv):=fun x0 x1 x2 x3 x4 x5 x6 x7=>(s x0 x1 x2 x3 x4 x5 x6 x7).map fun r=>(Dv.bl r.1,r.2)
end Q
namespace L2
open PySem PySem.Spec PyProof.Rows
section
end
section
end
section
end
section
end
end L2
namespace Q
open PySem L2 PyProof.Rows
noncomputable def nP (σ:List (List Nat)) (k:List Nat):List (List Nat):=if σ.contains k then σ else σ++[k]
def nK (ds:List Dt):Option Dt:=match ds with
 | [.tup es]=>(IM es).bind fun ls=>if ls.length<=4000 then some (.int ((ls.foldl nP []).length:Nat)) else none
 | [.lst _ es]=>(IM es).bind fun ls=>if ls.length<=4000 then some (.int ((ls.foldl nP []).length:Nat)) else none
 | _=>none
section
end
def nQ (x:Dv):Option Dv:=match x with
 | .tup es=>(IL es).bind fun ls=>if ls.length<=4000 then some (.int ((ls.foldl nP []).length:Nat)) else none
 | .lst es=>(IL es).bind fun ls=>if ls.length<=4000 then some (.int ((ls.foldl nP []).length:Nat)) else none
 | _=>none
end Q
namespace Q
open PySem L2
def qE (f l:Ev Dt) (h:Om) (m:M):Option (Dt×M):=do
 let (ds,m1) <- AV [.ev f,.ev l] m
 let (hs,m2) <- AV [h] m1
 match ds,hs with
 | [d,.int i],[.int j]=>(Oo (some i) (some j) d).map fun r=>(r,m2)
 | _,_=>none
section
end
end Q
namespace HT
open PySem PyProof.Rows
section
end
end HT
namespace L2
open PySem PySem.Spec PyProof.Rows
section
end
end L2
namespace Q
open PySem L2
def pd (ds:List Dt):Option Dt:=match ds with
 | [.lst _ xs,.int i]=>if i = -1 then bif cps xs then some (.lst true xs.reverse) else none else none
 | [.tup xs,.int i]=>if i = -1 then bif cps xs then some (.tup xs.reverse) else none else none
 | _=>none
section
end
def ql (ds hs:List Dt) (m2:M):Option (Dt×M):=match ds,hs with | [d,.int i],[.int j]=>(Oo (some i) (some j) d).map fun r=>(r,m2) | _,_=>none
theorem Dh {α β:Type} (f:α->β) (x:Option α):Option.map f x=x.bind fun a=>some (f a):=by cases x<;>rfl
noncomputable def qQ (x y:Dv):Option Dv:=match x,y with
 | .lst xs,.int i=>if i = -1 then some (.lst xs.reverse) else none
 | .tup xs,.int i=>if i = -1 then some (.tup xs.reverse) else none
 | _,_=>none
variable (p:Pr) (f g:Ev Dt) (i j:Nat) (m:M)
theorem qx:AB p [.ev f] m=kB (f m) fun a m1=>(p [a]).bind fun d=>some (d,m1):=by
 simp only [KI,KJ,KL,Ax,AK]
theorem qw:AB p [.rf i] m=(lk m.ρ i).bind fun _=>(lk m.ρ i).bind fun a=>(p [a]).bind fun d=>some (d,m):=by
 simp only [KI,Mh,KL,Ax,AK,Aq]
theorem nu:AB p [.ev f,.ev g] m=kB (f m) fun a m1=>kB (g m1) fun b m2=>(p [a,b]).bind fun d=>some (d,m2):=by
 simp only [KI,KJ,KL,Ax,AK]
theorem ia:AB p [.ev f,.rf j] m=kB (f m) fun a m1=>(lk m1.ρ j).bind fun _=>(lk m1.ρ j).bind fun b=>(p [a,b]).bind fun d=>some (d,m1):=by
 simp only [KI,KJ,Mh,KL,Ax,AK,Aq]
theorem iZ:AB p [.rf i,.ev g] m=(lk m.ρ i).bind fun _=>kB (g m) fun b m1=>(lk m1.ρ i).bind fun a=>(p [a,b]).bind fun d=>some (d,m1):=by
 simp only [KI,KJ,Mh,KL,Ax,AK,Aq]
theorem iY:AB p [.rf i,.rf j] m=(lk m.ρ i).bind fun _=>(lk m.ρ j).bind fun _=>(lk m.ρ j).bind fun b=>(lk m.ρ i).bind fun a=>(p [a,b]).bind fun d=>some (d,m):=by
 simp only [KI,KJ,Mh,KL,Ax,AK,Aq]
end Q
namespace Q
section
theorem fG (d:Option Dt) (l:List (Option Dt)):lk (d::l) 0=d:=by cases d<;>rfl
theorem eJ (b x:Option Dt) (l:List (Option Dt)):(b::l).set 0 x=x::l:=rfl
theorem fF (a0:Option Dt) (d:Option Dt) (l:List (Option Dt)):lk (a0::d::l) 1=d:=by cases d<;>rfl
theorem eI (a0:Option Dt) (b x:Option Dt) (l:List (Option Dt)):(a0::b::l).set 1 x=a0::x::l:=rfl
theorem fE (a0 a1:Option Dt) (d:Option Dt) (l:List (Option Dt)):lk (a0::a1::d::l) 2=d:=by cases d<;>rfl
theorem eH (a0 a1:Option Dt) (b x:Option Dt) (l:List (Option Dt)):(a0::a1::b::l).set 2 x=a0::a1::x::l:=rfl
theorem fD (a0 a1 a2:Option Dt) (d:Option Dt) (l:List (Option Dt)):lk (a0::a1::a2::d::l) 3=d:=by cases d<;>rfl
theorem eG (a0 a1 a2:Option Dt) (b x:Option Dt) (l:List (Option Dt)):(a0::a1::a2::b::l).set 3 x=a0::a1::a2::x::l:=rfl
theorem fC (a0 a1 a2 a3:Option Dt) (d:Option Dt) (l:List (Option Dt)):lk (a0::a1::a2::a3::d::l) 4=d:=by cases d<;>rfl
theorem eF (a0 a1 a2 a3:Option Dt) (b x:Option Dt) (l:List (Option Dt)):(a0::a1::a2::a3::b::l).set 4 x=a0::a1::a2::a3::x::l:=rfl
theorem fB (a0 a1 a2 a3 a4:Option Dt) (d:Option Dt) (l:List (Option Dt)):lk (a0::a1::a2::a3::a4::d::l) 5=d:=by cases d<;>rfl
theorem eE (a0 a1 a2 a3 a4:Option Dt) (b x:Option Dt) (l:List (Option Dt)):(a0::a1::a2::a3::a4::b::l).set 5 x=a0::a1::a2::a3::a4::x::l:=rfl
theorem fA (a0 a1 a2 a3 a4 a5:Option Dt) (d:Option Dt) (l:List (Option Dt)):lk (a0::a1::a2::a3::a4::a5::d::l) 6=d:=by cases d<;>rfl
theorem eD (a0 a1 a2 a3 a4 a5:Option Dt) (b x:Option Dt) (l:List (Option Dt)):(a0::a1::a2::a3::a4::a5::b::l).set 6 x=a0::a1::a2::a3::a4::a5::x::l:=rfl
theorem ez (a0 a1 a2 a3 a4 a5 a6:Option Dt) (d:Option Dt) (l:List (Option Dt)):lk (a0::a1::a2::a3::a4::a5::a6::d::l) 7=d:=by cases d<;>rfl
theorem eC (a0 a1 a2 a3 a4 a5 a6:Option Dt) (b x:Option Dt) (l:List (Option Dt)):(a0::a1::a2::a3::a4::a5::a6::b::l).set 7 x=a0::a1::a2::a3::a4::a5::a6::x::l:=rfl
theorem ek (a0 a1 a2 a3 a4 a5 a6 a7:Option Dt) (d:Option Dt) (l:List (Option Dt)):lk (a0::a1::a2::a3::a4::a5::a6::a7::d::l) 8=d:=by cases d<;>rfl
theorem eB (a0 a1 a2 a3 a4 a5 a6 a7:Option Dt) (b x:Option Dt) (l:List (Option Dt)):(a0::a1::a2::a3::a4::a5::a6::a7::b::l).set 8 x=a0::a1::a2::a3::a4::a5::a6::a7::x::l:=rfl
theorem eg (a0 a1 a2 a3 a4 a5 a6 a7 a8:Option Dt) (d:Option Dt) (l:List (Option Dt)):lk (a0::a1::a2::a3::a4::a5::a6::a7::a8::d::l) 9=d:=by cases d<;>rfl
theorem eA (a0 a1 a2 a3 a4 a5 a6 a7 a8:Option Dt) (b x:Option Dt) (l:List (Option Dt)):(a0::a1::a2::a3::a4::a5::a6::a7::a8::b::l).set 9 x=a0::a1::a2::a3::a4::a5::a6::a7::a8::x::l:=rfl
theorem Yn (a0 a1 a2 a3 a4 a5 a6 a7 a8 a9:Option Dt) (d:Option Dt) (l:List (Option Dt)):lk (a0::a1::a2::a3::a4::a5::a6::a7::a8::a9::d::l) 10=d:=by cases d<;>rfl
theorem XE (a0 a1 a2 a3 a4 a5 a6 a7 a8 a9:Option Dt) (b x:Option Dt) (l:List (Option Dt)):(a0::a1::a2::a3::a4::a5::a6::a7::a8::a9::b::l).set 10 x=a0::a1::a2::a3::a4::a5::a6::a7::a8::a9::x::l:=rfl
end
end Q
namespace Q
open PySem L2
section
theorem dw (a0:Option Dt) (b:Option Dt) (d:Dt) (l:List (Option Dt)) (S:List Ob):Aj 1 d ⟨a0::b::l,S⟩=some ⟨a0::some d::l,S⟩:=by rw [IX,if_pos (by simp only [List.length_cons];omega)];rfl
theorem dv (a0 a1:Option Dt) (b:Option Dt) (d:Dt) (l:List (Option Dt)) (S:List Ob):Aj 2 d ⟨a0::a1::b::l,S⟩=some ⟨a0::a1::some d::l,S⟩:=by rw [IX,if_pos (by simp only [List.length_cons];omega)];rfl
theorem du (a0 a1 a2:Option Dt) (b:Option Dt) (d:Dt) (l:List (Option Dt)) (S:List Ob):Aj 3 d ⟨a0::a1::a2::b::l,S⟩=some ⟨a0::a1::a2::some d::l,S⟩:=by rw [IX,if_pos (by simp only [List.length_cons];omega)];rfl
theorem dq (a0 a1 a2 a3:Option Dt) (b:Option Dt) (d:Dt) (l:List (Option Dt)) (S:List Ob):Aj 4 d ⟨a0::a1::a2::a3::b::l,S⟩=some ⟨a0::a1::a2::a3::some d::l,S⟩:=by rw [IX,if_pos (by simp only [List.length_cons];omega)];rfl
theorem dk (a0 a1 a2 a3 a4:Option Dt) (b:Option Dt) (d:Dt) (l:List (Option Dt)) (S:List Ob):Aj 5 d ⟨a0::a1::a2::a3::a4::b::l,S⟩=some ⟨a0::a1::a2::a3::a4::some d::l,S⟩:=by rw [IX,if_pos (by simp only [List.length_cons];omega)];rfl
theorem di (a0 a1 a2 a3 a4 a5:Option Dt) (b:Option Dt) (d:Dt) (l:List (Option Dt)) (S:List Ob):Aj 6 d ⟨a0::a1::a2::a3::a4::a5::b::l,S⟩=some ⟨a0::a1::a2::a3::a4::a5::some d::l,S⟩:=by rw [IX,if_pos (by simp only [List.length_cons];omega)];rfl
theorem dh (a0 a1 a2 a3 a4 a5 a6:Option Dt) (b:Option Dt) (d:Dt) (l:List (Option Dt)) (S:List Ob):Aj 7 d ⟨a0::a1::a2::a3::a4::a5::a6::b::l,S⟩=some ⟨a0::a1::a2::a3::a4::a5::a6::some d::l,S⟩:=by rw [IX,if_pos (by simp only [List.length_cons];omega)];rfl
theorem dg (a0 a1 a2 a3 a4 a5 a6 a7:Option Dt) (b:Option Dt) (d:Dt) (l:List (Option Dt)) (S:List Ob):Aj 8 d ⟨a0::a1::a2::a3::a4::a5::a6::a7::b::l,S⟩=some ⟨a0::a1::a2::a3::a4::a5::a6::a7::some d::l,S⟩:=by rw [IX,if_pos (by simp only [List.length_cons];omega)];rfl
theorem df (a0 a1 a2 a3 a4 a5 a6 a7 a8:Option Dt) (b:Option Dt) (d:Dt) (l:List (Option Dt)) (S:List Ob):Aj 9 d ⟨a0::a1::a2::a3::a4::a5::a6::a7::a8::b::l,S⟩=some ⟨a0::a1::a2::a3::a4::a5::a6::a7::a8::some d::l,S⟩:=by rw [IX,if_pos (by simp only [List.length_cons];omega)];rfl
theorem Wu (a0 a1 a2 a3 a4 a5 a6 a7 a8 a9:Option Dt) (b:Option Dt) (d:Dt) (l:List (Option Dt)) (S:List Ob):Aj 10 d ⟨a0::a1::a2::a3::a4::a5::a6::a7::a8::a9::b::l,S⟩=some ⟨a0::a1::a2::a3::a4::a5::a6::a7::a8::a9::some d::l,S⟩:=by rw [IX,if_pos (by simp only [List.length_cons];omega)];rfl
end
end Q
namespace L3
open PySem PySem.Spec PyProof.Rows L2
mutual
noncomputable def D.py:D->PyData
 | .fl .non=>.none
 | .fl (.bl b)=>.bool b
 | .fl (.int i)=>.int i
 | .fl (.str x)=>.str x
 | .fl _=>.none
 | .tup ds=>.tuple (nr ds)
 | .lst ds=>.list (nr ds)
noncomputable def nr:List D->List PyData
 | []=>[]
 | d::ds=>d.py::nr ds
end
mutual
noncomputable def D.rok:D->Bool
 | .fl .non=>true
 | .fl (.bl _)=>true
 | .fl (.int i)=>decide (i.natAbs < 10 ^ 18)
 | .fl (.str x)=>x.cps.toList.all fun c=>decide (c < 16 ^ 8)
 | .fl _=>false
 | .tup ds=>rokL ds
 | .lst _=>false
noncomputable def rokL:List D->Bool
 | []=>true
 | d::ds=>d.rok && rokL ds
end
mutual
noncomputable def D.wt:D->Nat
 | .fl (.str x)=>10 * x.length+2
 | .fl _=>20
 | .tup ds=>wtL ds+3
 | .lst ds=>wtL ds+3
noncomputable def wtL:List D->Nat
 | []=>0
 | d::ds=>d.wt+2+wtL ds
end
section
end
end L3
namespace Q
open PySem L2
def pe (ds:List Dt):Option Dt:=match ds with
 | [.tup xs]=>if Ek xs=true/\L3.rokL (toDs xs)=true/\L3.depL (toDs xs)<=49/\L3.wtL (toDs xs)<=900000 then some (.str (L3.D.tup (toDs xs)).py.shown.cps.toList) else none
 | _=>none
def qR (x:Dv):Option Dv:=match x with
 | .tup xs=>if Ek (Ar xs)=true/\L3.rokL (toDs (Ar xs))=true/\L3.depL (toDs (Ar xs))<=49/\L3.wtL (toDs (Ar xs))<=900000 then some (.str (L3.D.tup (toDs (Ar xs))).py.shown.cps.toList) else none
 | _=>none
end Q
namespace L3
open PySem L2
end L3
namespace Q
open PySem L2
noncomputable def qp (ds:List Dt):Option Dt:=match ds with | [.bl a,.bl b]=>some (.bl (a == b)) | _=>none
noncomputable def ph (ds:List Dt):Option Dt:=match ds with | [.bl a,.bl b]=>some (.bl (!(a == b))) | _=>none
noncomputable def rC (x y:Dv):Option Bool:=match x,y with | .bl a,.bl b=>some (a == b) | _,_=>none
noncomputable def qK (x y:Dv):Option Bool:=match x,y with | .bl a,.bl b=>some (!(a == b)) | _,_=>none
end Q
namespace L3
open PySem PySem.Spec PyProof.Rows L2 Builtin
theorem Jx:fillsNumberSlot (.type "tuple") "mul" = pure false:=
 PySem.fillsNumberSlot_seq (id := "tuple.__mul__") (r:=some (.builtin "tuple.__rmul__")) F.slot_tuple_mul.lookup (by decide +kernel) F.slot_tuple_rmul.lookup (by decide +kernel)
theorem Ou:seqRepeat? (.type "tuple")=pure (some (.builtin "tuple.__mul__")):=by
 unfold seqRepeat?
 rw [PySem.seqSlot_of (T := "tuple") (name := "__mul__") (id := "tuple.__mul__") F.slot_tuple_mul.lookup (by decide +kernel),PySem.seqSlot_of (T := "tuple") (name := "__rmul__") (id := "tuple.__rmul__") F.slot_tuple_rmul.lookup (by decide +kernel)]
 rfl
theorem ML (a:Int) (t:Tok) (l:Addr) (items:Array Value) (n:Nat) :
    Meets (Builtin.«int.__rmul__» ⟨[.int a t,.ref l],[]⟩) (fun _ R s=>(∃ o,s.heap.get? l=some o/\o.cls=.type "tuple" /\ o.data=.seq items n)/\R (.ok (.ret Value.notImplemented)) s):=
  .of_wp fun prog w A R s h=>by
    obtain ⟨hp,g,d,tk,os⟩:=s;obtain ⟨⟨⟨c,dd,dat,sl⟩,hl,hc,hd⟩,h⟩:=h;simp only at hc hd;subst hc;subst hd
    wp_walk;exact ⟨_,rfl,h⟩
theorem LZ (l:Addr) (items:Array Value) (n:Nat) (x:Int) (u:Tok) (h1:1 < x) (h2:x < 2 ^ 63) (hz:items.size * x.toNat<=1000000) (hne:items.isEmpty=false) :
    Meets (Builtin.«tuple.__mul__» ⟨[.ref l,.int x u],[]⟩) (fun _ R s=>(∃ o,s.heap.get? l=some o/\o.cls=.type "tuple" /\ o.data=.seq items n)/\R (.ok (.ret (Value.ref s.heap.objs.size))) { s with heap:=s.heap.push { cls:=Value.type "tuple", data:=Data.seq ((List.replicate x.toNat items).foldl (·++·) #[]) },toks:=s.toks }):=
  .of_wp fun prog w A R s h=>by
    obtain ⟨hp,g,d,tk,os⟩:=s;obtain ⟨⟨⟨c,dd,dat,sl⟩,hl,hc,hd⟩,h⟩:=h;simp only at hc hd;subst hc;subst hd;have hz':(items.size:Int) * x<=1000000:=by
      have e:x=(x.toNat:Int):=by omega
      rw [e,<- Int.natCast_mul];omega
    wp_walk
    refine wpAny_ite_false (by simp;omega) ?_
    wp_walk
    refine wpAny_ite_false (by rw [hne];simp;omega) ?_
    wp_walk
    refine wpAny_ite_false (by rw [hne];simp;omega) ?_
    wp_walk
    refine wpAny_ite_false (decide_eq_false (by have : ((2 : Int) ^ 63 - 1) / 8 > 1000000 := by decide
                                                omega)) ?_
    wp_walk
    refine wpAny_ite_false (decide_eq_false (by unfold Tuple.tupleTooMany;rw [decide_eq_true_eq,sizeLine_eq];omega)) ?_
    wp_walk
    refine wpAny_ite_false (decide_eq_false (by rw [AutoListH.size_joined,sizeLine_eq];simp only [Array.size_empty];have:=Nat.mul_comm items.size x.toNat;omega)) ?_
    wp_walk
    exact ⟨_,rfl,h⟩
theorem NI (l:Addr) (items:Array Value) (n:Nat) (u:Tok) :
    Meets (Builtin.«tuple.__mul__» ⟨[.ref l,.int 1 u],[]⟩) (fun _ R s=>(∃ o,s.heap.get? l=some o/\o.cls=.type "tuple" /\ o.data=.seq items n)/\R (.ok (.ret (Value.ref l))) s):=
  .of_wp fun prog w A R s h=>by
    obtain ⟨hp,g,d,tk,os⟩:=s;obtain ⟨⟨⟨c,dd,dat,sl⟩,hl,hc,hd⟩,h⟩:=h;simp only at hc hd;subst hc;subst hd
    wp_walk
    exact ⟨_,rfl,h⟩
def rRepT:R2:=fun x y H Q=>∃ l k xs,x=.ref l/\y=.int k/\H l=some (.tup xs)/\xs≠[]/\1<=k/\k < 2 ^ 63/\xs.length * k.toNat<=1000000/\(k=1->Q (.ref l) H) /\
 (k≠1->∀ p,H p=none->Q (.ref p) (upd H p (.tup (List.replicate k.toNat xs).flatten)))
theorem op_repT {X:Cx}:FW X (binaryOp .Mult) rRepT:=by
  intro pins s σ H x y v u Q I rx ry h;obtain ⟨l,k,xs,rfl,rfl,hH,hne,h1,h2,hz,q1,q2⟩:=h;cases rx;obtain ⟨t,rfl⟩:=ry;obtain ⟨its,r,⟨o,e,c,n,dt⟩,_⟩:=I.tuple (show IK X.K H l xs from .inl (.inl hH));have hl:its.length=xs.length:=r.length.symm
  have ho:∃ o,s.heap.get? l=some o/\o.cls=.type "tuple" /\ o.data=.seq its.toArray n:=⟨o,e,c,dt⟩
  have em:its.toArray.isEmpty=false:=by
    cases its with
    | nil=>cases xs with
      | nil=>exact absurd rfl hne
      | cons _ _=>simp at hl
    | cons _ _=>rfl
  refine wpAny_binaryOp_repeat_ref (T := "tuple") (U := "int") (by decide) ⟨_,e,c⟩ (fun s'=>typeIs_int s' k t) Jx F.fills_int_mul F.slot_int_rmul Ou F.slot_int_index.lookup
    (call_meets F.slot_int_rmul (typeIs_int s k t) F.entry_int_rmul (F.args_int_rmul_2 _ _) (ML k t l its.toArray n)
      ⟨ho,rfl,⟨_,e,c⟩,?_⟩)
  by_cases hk:k=1
  · subst hk;exact call_meets F.slot_tuple_mul ⟨_,e,c⟩ F.entry_tuple_mul (F.args_tuple_mul_2 _ _) (NI l its.toArray n t) ⟨ho,.ref l,H,I,rfl,q1 rfl⟩
  · refine call_meets F.slot_tuple_mul ⟨_,e,c⟩ F.entry_tuple_mul (F.args_tuple_mul_2 _ _) (LZ l its.toArray n k t (by omega) h2 (by rw [List.size_toArray,hl];exact hz) em) ⟨ho,?_⟩;have f0:List.foldl (fun x1 x2=>x1++x2) #[] (List.replicate k.toNat its.toArray)=(List.replicate k.toNat its).flatten.toArray:=by
      have:=foldl_rep its k.toNat [];rw [List.nil_append] at this;exact this
    rw [f0];refine ⟨.ref _,_,I.laid (t':=s.toks) (fun _ _ q=>Heap.get?_push_of_some _ q) (Nat.le_refl _) (o:=.tup (List.replicate k.toNat xs).flatten) ⟨?_,_,r.rep k.toNat,Kr.new _ _⟩,rfl,q2 hk _ I.fresh⟩;rw [len_rep,Nat.mul_comm];exact Nat.le_trans hz (by decide)
end L3
namespace Q
open PySem L2
variable {K:W.Frag}
def Lz (ds:List Dt):Option Dt:=match ds with
 | [.tup xs,.int k]=>if xs≠[]/\1<=k/\k < 1000000/\xs.length * k.toNat<=1000000 then bif cps xs then some (.tup (List.replicate k.toNat xs).flatten) else none else none
 | _=>none
theorem PB:Bc K Lz (NH L3.rRepT):=by
 intro g H ds vs d Q zd ra e k;unfold Lz at e;split at e
 ·rename_i xs n;split at e
  ·rename_i hl;obtain ⟨l1,l2,l3,l4⟩:=hl;cases c:cps xs with
   | false=>rw [c] at e;cases e
   | true =>
    rw [c,cond_true] at e;cases e;obtain ⟨v,P,w,R,rfl,h1,h2⟩:=ra.two;obtain ⟨a,us,rfl,ha',hx⟩:=h1.tupH;rw [Ap h2];have hl:=hx.len;refine ⟨a,n,us,rfl,rfl,ha',fun z=>l1 (by subst z;exact List.eq_nil_of_length_eq_zero hl),l2,by omega,by rw [<- hl];exact l4,fun h1'=>?_,fun _ p hp=>k _ _ (CO.tupNew hp (AG.flat (hx.cp c) _))⟩;subst h1';refine k _ _ ⟨fun _ _ q=>q,BS,?_,fun _ z=>z.elim⟩;have e1:(List.replicate (1:Int).toNat xs).flatten=xs:=by simp
    rw [e1];unfold Rep;exact ⟨a,us,rfl,ha',hx.cp c⟩
  ·cases e
 ·cases e
noncomputable def IY (x y:Dv):Option Dv:=match x,y with
 | .tup xs,.int k=>if xs≠[]/\1<=k/\k < 1000000/\xs.length * k.toNat<=1000000 then some (.tup (List.replicate k.toNat xs).flatten) else none
 | _,_=>none
theorem UP (a b:Bool) (x y:Dv):Lz [mk a x,mk b y]=(IY x y).map (mk true):=by
 cases x<;>cases y<;>try rfl
 rename_i xs n;simp only [mk,Lz.eq_def,IY.eq_def,Hz,Ds,cond_true,PQ];have e:(Ar xs≠[])=(xs≠[]):=by cases xs<;>simp [Ar]
 simp only [e];split<;>simp only [Option.map_some,Option.map_none,mk]
end Q
namespace Q
open PySem L2
variable {K:W.Frag} {g:G} {H:Hp}
noncomputable def ef (kvs:List (List Int×Int)) (ns:List Int):Option Int:=(kvs.find? fun p=>decide (p.1=ns)).map (·.2)
def qC (ds:List Dt):Option Dt:=match ds with
 | [.dti _ kvs,.tup ks]=>(OE ks).bind fun ns=>(ef kvs ns).map .int
 | _=>none
def lY:Dt->Option (List Int×Int)
 | .tup [.tup ks,.int v]=>(OE ks).map fun ns=>(ns,v)
 | _=>none
def Xx:List Dt->Option (List (List Int×Int))
 | []=>some []
 | d::ds=>(lY d).bind fun p=>(Xx ds).map (p::·)
def qB (ds:List Dt):Option Dt:=match ds with
 | [.lst _ xs]=>(Xx xs).bind fun ps=>if (ps.map (·.1)).Nodup then some (.dti true ps) else none
 | _=>none
def gU:Dv->Option (List Int×Int)
 | .tup [.tup ks,.int v]=>(Nh ks).map fun ns=>(ns,v)
 | _=>none
def Wf:List Dv->Option (List (List Int×Int))
 | []=>some []
 | d::ds=>(gU d).bind fun p=>(Wf ds).map (p::·)
def qY (x y:Dv):Option Dv:=match x,y with
 | .dti kvs,.tup ks=>(Nh ks).bind fun ns=>(ef kvs ns).map .int
 | _,_=>none
def qX (x:Dv):Option Dv:=match x with
 | .lst xs=>(Wf xs).bind fun ps=>if (ps.map (·.1)).Nodup then some (.dti ps) else none
 | _=>none
end Q
namespace Q
open PySem L2
class Kt (α β:Type) where
 go:α->Option β
noncomputable def lB {α β:Type} (x:Option α) [k:Kt α β]:Option β:=x.bind k.go
section
variable {α β γ:Type}
theorem UX (a:α) (k:α->Option β):@lB α β (some a) ⟨k⟩=k a:=rfl
theorem Yw (x:Option γ) (f:γ->α) (k:α->Option β):@lB α β (x.map f) ⟨k⟩=x.bind fun a=>k (f a):=by cases x<;>rfl
theorem UY (x:Option γ) (f:γ->Option α) (k:α->Option β):@lB α β (x.bind f) ⟨k⟩=x.bind fun a=>@lB α β (f a) ⟨k⟩:=by cases x<;>rfl
theorem fu (x:Option γ) (f:γ->Option (α×M)) (k:α->M->Option β):kB (@lB γ (α×M) x ⟨f⟩) k=@lB γ β x ⟨fun a=>kB (f a) k⟩:=by cases x<;>rfl
end
section
variable {β:Type} (k:Dt->M->Option β) (kb:Bool->M->Option β) (kf:Fl->M->Option β) (kl:List Dt->M->Option β) (p:Pr) (f g h:Ev Dt) (os:List Om) (i j:Nat) (m:M)
theorem dR {α:Type} (d:Dt) (q:M->Option α):(Aj i d m).bind q=@lB _ _ (Aj i d m) ⟨q⟩:=rfl
theorem dQ {α:Type} (s:List Dt->M->Option M) (d:Dt) (q:M->Option α):(Kv s d m).bind q=@lB _ _ (Kv s d m) ⟨q⟩:=rfl
theorem dS {α:Type} (s:List Dt->M->Option M) (d:Dt) (q:M->Option α):(pV s d m).bind q=@lB _ _ (pV s d m) ⟨q⟩:=rfl
theorem kW {α:Type} (r:List (Option Dt)) (q:Dt->Option α):(lk r i).bind q=@lB _ _ (lk r i) ⟨q⟩:=rfl
theorem fY (n:Int):kB (Aa (.int n) m) k=k (mk true (.int n)) m:=by rw [WT,AK]
theorem fK (n:List Nat):kB (Aa (.str n) m) k=k (mk true (.str n)) m:=by rw [WQ,AK]
theorem fc (n:Bool):kB (Aa (.bl n) m) k=k (mk true (.bl n)) m:=by rw [aF,AK]
theorem fV:kB (Aa .non m) k=k (mk true .non) m:=by rw [WR,AK]
theorem mF (n:String):kB (Aa (.ty n) m) k=k (mk true (.ty n)) m:=by rw [aE,AK]
theorem fW (n:List (List Nat)):kB (Aa (.mtp n) m) k=k (mk true (.mtp n)) m:=by rw [WS,AK]
theorem fJ:kB (Ab i m) k=@lB _ _ (lk m.ρ i) ⟨fun d=>k d.fz (m.set i (some d.fz))⟩:=by simp only [lB];rw [Zu,Aq];rfl
theorem fX:kB (Hb i m) k=@lB _ _ (lk m.ρ i) ⟨fun d=>k d (m.set i none)⟩:=by simp only [lB];rw [md,Aq];rfl
theorem ZJ:kB (AV [] m) kl=kl [] m:=rfl
theorem ZI:kB (AV (.ev f::os) m) kl=kB (f m) fun d m1=>kB (AV os m1) fun ds m2=>kl (d::ds) m2:=by rw [KJ];simp only [Ax,AK]
theorem ZH:kB (AV (.rf i::os) m) kl=@lB _ _ (lk m.ρ i) ⟨fun _=>kB (AV os m) fun ds m2=>@lB _ _ (lk m2.ρ i) ⟨fun d=>kl (d::ds) m2⟩⟩:=by simp only [lB];rw [Mh];simp only [Ax,AK,Aq]
theorem mM:kB (AB p [.ev f] m) k=kB (f m) fun a m1=>@lB _ _ (p [a]) ⟨fun d=>k d m1⟩:=by simp only [lB];rw [qx];simp only [Ax,AK,Aq]
theorem mL:kB (AB p [.rf i] m) k=@lB _ _ (lk m.ρ i) ⟨fun _=>@lB _ _ (lk m.ρ i) ⟨fun a=>@lB _ _ (p [a]) ⟨fun d=>k d m⟩⟩⟩:=by simp only [lB];rw [qw];simp only [Ax,AK,Aq]
theorem fk:kB (AB p [.ev f,.ev g] m) k=kB (f m) fun a m1=>kB (g m1) fun b m2=>@lB _ _ (p [a,b]) ⟨fun d=>k d m2⟩:=by simp only [lB];rw [nu];simp only [Ax,AK,Aq]
theorem fj:kB (AB p [.ev f,.rf j] m) k=kB (f m) fun a m1=>@lB _ _ (lk m1.ρ j) ⟨fun _=>@lB _ _ (lk m1.ρ j) ⟨fun b=>@lB _ _ (p [a,b]) ⟨fun d=>k d m1⟩⟩⟩:=by simp only [lB];rw [ia];simp only [Ax,AK,Aq]
theorem fi:kB (AB p [.rf i,.ev g] m) k=@lB _ _ (lk m.ρ i) ⟨fun _=>kB (g m) fun b m1=>@lB _ _ (lk m1.ρ i) ⟨fun a=>@lB _ _ (p [a,b]) ⟨fun d=>k d m1⟩⟩⟩:=by simp only [lB];rw [iZ];simp only [Ax,AK,Aq]
theorem fh:kB (AB p [.rf i,.rf j] m) k=@lB _ _ (lk m.ρ i) ⟨fun _=>@lB _ _ (lk m.ρ j) ⟨fun _=>@lB _ _ (lk m.ρ j) ⟨fun b=>@lB _ _ (lk m.ρ i) ⟨fun a=>@lB _ _ (p [a,b]) ⟨fun d=>k d m⟩⟩⟩⟩⟩:=by simp only [lB];rw [iY];simp only [Ax,AK,Aq]
theorem ZL:kB (Je [] m) kl=kl (Ar []) m:=by rw [jj,AK]
theorem ZK:kB (Je (.ev f::os) m) kl=kB (f m) fun d m1=>kB (Je os m1) fun ds m2=>kl (d::ds) m2:=by rw [ji];simp only [Ax,AK]
theorem fQ (t:List Dt->Dt):kB (BI t os m) k=kB (Je os m) fun ds m1=>if ds.length<=1000000 then k (t ds) m1 else none:=by rw [mZ];simp only [Ax,AK,EW,JZ]
theorem ZC:kB (Ca f m) kb=kB (f m) fun d m1=>@lB _ _ (QV d) ⟨fun b=>kb b m1⟩:=by simp only [lB];rw [TU];simp only [Ax,AK,Aq]
theorem fg (a b:Ev Bool):kB (IU a b m) kb=kB (a m) fun x m1=>if x=true then kB (b m1) kb else kb false m1:=by rw [aH];simp only [Ax,AK,EW]
theorem mH (a b:Ev Bool):kB (Kl a b m) kb=kB (a m) fun x m1=>if x=true then kb true m1 else kB (b m1) kb:=by rw [jh];simp only [Ax,AK,EW]
theorem fU (a:Ev Bool):kB (GJ a m) kb=kB (a m) fun x m1=>kb (!x) m1:=by rw [aA];simp only [Ax,AK]
theorem mI {α:Type} (c:Ev Bool) (a b:M->Option (α×M)) (ka:α->M->Option β):kB (DL c a b m) ka=kB (c m) fun x m1=>if x=true then kB (a m1) ka else kB (b m1) ka:=by rw [pK];simp only [Ax,EW]
theorem ZR:kB (KF f g m) k=kB (f m) fun d m1=>@lB _ _ (QV d) ⟨fun b=>if b=true then kB (g m1) k else k (mk true (.bl false)) m1⟩:=by simp only [lB];rw [TY];simp only [Ax,AK,Aq,EW]
theorem fT:kB (OL f g m) k=kB (f m) fun d m1=>@lB _ _ (QV d) ⟨fun b=>if b=true then k (mk true (.bl true)) m1 else kB (g m1) k⟩:=by simp only [lB];rw [Zz];simp only [Ax,AK,Aq,EW]
theorem ZM:kB (KD f m) k=kB (f m) fun d m1=>@lB _ _ (QV d) ⟨fun b=>k (mk true (.bl (!b))) m1⟩:=by simp only [lB];rw [TV];simp only [Ax,AK,Aq]
theorem mJ:kB (AO f m) k=kB (f m) fun d m1=>k d.fz m1:=by rw [jk];simp only [Ax,AK]
theorem ZP:kB (Gg f m) k=kB (f m) fun d m1=>@lB _ _ (QV d) ⟨fun b=>k (mk true (.bl b)) m1⟩:=by simp only [lB];rw [jm];simp only [Ax,AK,Aq]
theorem mG (a b:Es):kB (Al a b m) kf=kB (a m) fun fl m1=>kB (eK b fl m1) kf:=by rw [jd,Ax]
theorem fM (b:Es):kB (eK b .nx m) kf=kB (b m) kf:=rfl
theorem fN (b:Es):kB (eK b .ct m) kf=kf .ct m:=rfl
theorem fP (b:Es):kB (eK b .bk m) kf=kf .bk m:=rfl
theorem fL (b:Es) (d:Dt):kB (eK b (.rt d) m) kf=kf (.rt d) m:=rfl
theorem ZD:kB (BX m) kf=kf .nx m:=rfl
theorem fR:kB (BG f m) kf=kB (f m) fun d m1=>kf (.rt d) m1:=by rw [ma];simp only [Ax,AK]
theorem ZN:kB (DM f m) kf=kB (f m) fun _ m1=>kf .nx m1:=by rw [TX];simp only [Ax,AK]
theorem ff (tg:Tg):kB (Ad f tg m) kf=kB (f m) fun d m1=>@lB _ _ (tg d m1) ⟨fun m2=>kf .nx m2⟩:=by simp only [lB];rw [mf];simp only [Ax,AK,Aq]
theorem mK {α:Type} (js:List Nat) (a:M->Option (α×M)) (ka:α->M->Option β):kB (Ae js a m) ka=kB (a m) fun x m1=>ka x (m1.blank js):=by rw [jq];simp only [Ax,AK]
theorem fZ (src:Ev (List Dt)) (tg:Tg) (b:Es):kB (CY src tg b m) kf=kB (src m) fun ds m1=>kB (forL tg b ds m1) kf:=by rw [me];simp only [Ax]
theorem RV:kB (Az f m) kl=kB (f m) fun d m1=>@lB _ _ (Iu d) ⟨fun ds=>kl ds m1⟩:=by simp only [lB];rw [aD];simp only [Ax,AK,Aq]
theorem ZF (o:Om):kB (Bf o m) kl=kB (AV [o] m) fun ds m1=>@lB _ _ (Nr ds) ⟨fun is=>kl is m1⟩:=by simp only [lB];rw [jf];simp only [Ax,AK,Aq]
theorem ZE (o o':Om):kB (KC o o' m) kl=kB (AV [o,o'] m) fun ds m1=>@lB _ _ (Nq ds) ⟨fun is=>kl is m1⟩:=by simp only [lB];rw [je];simp only [Ax,AK,Aq]
theorem UZ:kB (IF f m) kl=kB (f m) fun d m1=>@lB _ _ (MB d) ⟨fun ds=>kl ds m1⟩:=by simp only [lB];rw [cy];simp only [Ax,AK,Aq]
theorem ZG:kB (TC f m) kl=kB (f m) fun d m1=>@lB _ _ (Xy d) ⟨fun ds=>kl ds m1⟩:=by simp only [lB];rw [jg];simp only [Ax,AK,Aq]
theorem ZA:kB (Iy f g m) kl=kB (AV [.ev f,.ev g] m) fun ds m1=>@lB _ _ (Qx ds) ⟨fun zs=>kl zs m1⟩:=by simp only [lB];rw [jc];simp only [Ax,AK,Aq]
theorem Yz:kB (Iw f g h m) kl=kB (AV [.ev f,.ev g,.ev h] m) fun ds m1=>@lB _ _ (Qw ds) ⟨fun zs=>kl zs m1⟩:=by simp only [lB];rw [jb];simp only [Ax,AK,Aq]
theorem ZO (src:Ev (List Dt)) (js:List Nat) (tg:Tg):kB (BO src js tg f m) k=kB (src m) fun ds m1=>if ds.length<=1000000 then kB (FH js tg f ds m1) fun xs m2=>k (.lst true xs) ⟨Ql js m1.ρ m2.ρ,m2.S⟩ else none:=by rw [jl];simp only [Ax,AK,EW,JZ]
theorem Ua (src:Ev (List Dt)) (js:List Nat) (tg:Tg) (c:Ev Bool):kB (Cw src js tg c f m) k=kB (src m) fun ds m1=>if ds.length<=1000000 then kB (Hk js tg c f ds m1) fun xs m2=>k (.lst true xs) ⟨Ql js m1.ρ m2.ρ,m2.S⟩ else none:=by rw [cz];simp only [Ax,AK,EW,JZ]
theorem ZQ (Φ:Fn) (n:Nat) (io:List Nat):kB (AW Φ n io os m) k=kB (AV os m) fun ds m1=>if ds.length=n then @lB _ _ (Φ ds m1.S) ⟨fun r=>k r.1 ⟨Ms os io r.2.1 (cv os m1.ρ),r.2.2⟩⟩ else none:=by simp only [lB];rw [jo];simp only [Ax,AK,EW,JZ,Aq]
theorem Ub (Φ:Fn) (n:Nat):kB (CB Φ n os m) k=kB (AV os m) fun ds m1=>if ds.length=n then @lB _ _ (Φ (ds.map Dt.fz) m1.S) ⟨fun r=>if r.1.nol=true then k r.1 m1 else none⟩ else none:=by simp only [lB];rw [QH];simp only [Ax,AK,EW,JZ,Aq]
theorem fS (js:List Nat) (a:Es):kB (Zf js a m) kf=kB (a (m.blank js)) kf:=rfl
end
section
variable {τ γ ρ:Type} (w:τ->Dv) (E:γ->M) (Er:ρ->M) (μ:Bool)
theorem XS {α:Type} (x:Option α) (f:α->Option (Rs τ γ ρ)):VU w E Er μ (x.bind f)=x.bind fun a=>VU w E Er μ (f a):=by cases x<;>rfl
theorem Tp (c:Prop) [Decidable c] (x y:Option (Rs τ γ ρ)):VU w E Er μ (if c then x else y)=if c then VU w E Er μ x else VU w E Er μ y:=by split<;>rfl
theorem XQ (c:γ):VU w E Er μ (some (.go c))=some (.nx,E c):=rfl
theorem XO (d:τ) (r:ρ):VU w E Er μ (some (.rt d r))=some (.rt (mk μ (w d)),Er r):=rfl
theorem XR {τ' γ' ρ':Type} (x:Rs τ' γ' ρ') (f:γ'->Option (Rs τ γ ρ)) (h:τ'->ρ'->Option (Rs τ γ ρ)):VU w E Er μ (x.el f h)=x.el (fun c=>VU w E Er μ (f c)) fun d r=>VU w E Er μ (h d r):=by cases x<;>rfl
end
theorem VA (b:Bool):jv (.bl b)=some b:=rfl
theorem ZU {α:Type} (a:α):id a=a:=rfl
theorem iT {α:Type} (x y:α):(if True then x else y)=x:=if_pos trivial
theorem lC (ρ0 ρ:List (Option Dt)) (j:Nat) (h:lk ρ0 j=none):bP ρ0 j ρ=ρ:=by unfold bP;rw [h]
theorem lx {α:Type} (a:α) (l:List α):(a::l).length=l.length+1:=rfl
theorem lu {α:Type}:([]:List α).length=0:=rfl
theorem ge_0 {α:Type} (a:α) (l:List α):(a::l)[0]?=some a:=rfl
theorem ss:type_of% (And.intro (@AK) <| And.intro (@Aq) <| And.intro (@EW) <| And.intro (@ZS) <| And.intro (@Mv) <| And.intro (@Ux) <| And.intro (@fG) <| And.intro (@fF) <| And.intro (@fE) <| And.intro (@fD) <| And.intro (@fC) <| And.intro (@fB) <| And.intro (@fA) <| And.intro (@ez) <| And.intro (@ek) <| And.intro (@eg) <| And.intro (@Yn) <| And.intro (@eJ) <| And.intro (@eI) <| And.intro (@eH) <| And.intro (@eG) <| And.intro (@eF) <| And.intro (@eE) <| And.intro (@eD) <| And.intro (@eC) <| And.intro (@eB) <| And.intro (@eA) <| And.intro (@XE) <| And.intro (@my) <| And.intro (@qa) <| And.intro (@aJ) <| And.intro (@Uv) <| And.intro (@Zu) <| And.intro (@ia) <| And.intro (@iZ) <| And.intro (@iY) <| And.intro (@aG) <| And.intro (@gE) <| And.intro (@gJ) <| And.intro (@TU) <| And.intro (@gF) <| And.intro (@aH) <| And.intro (@jh) <| And.intro (@aA) <| And.intro (@TY) <| And.intro (@Zz) <| And.intro (@TV) <| And.intro (@Ur) <| And.intro (@XG) <| And.intro (@XF) <| And.intro (@jd) <| And.intro (@TX) <| And.intro (@dw) <| And.intro (@dv) <| And.intro (@du) <| And.intro (@dq) <| And.intro (@dk) <| And.intro (@di) <| And.intro (@dh) <| And.intro (@dg) <| And.intro (@df) <| And.intro (@Wu) <| And.intro (@gH) <| And.intro (@jk) <| And.intro (@jq) <| And.intro (@UN) <| And.intro (@UM) <| And.intro (@Zw) <| And.intro (@Zv) <| And.intro (@Zx) <| And.intro (@Zy) <| And.intro (@YT) <| And.intro (@YU) <| And.intro (@gG) <| And.intro (@YV) <| And.intro (@Tq) <| And.intro (@aC) <| And.intro (@RQ) <| And.intro (@Nz) <| And.intro (@Uq) <| And.intro (@OA) <| And.intro (@gI) <| And.intro (@Yb) <| And.intro (@Ny) <| And.intro (@Nx) <| And.intro (@Up) <| And.intro (@RK) <| And.intro (@eX) <| And.intro (@RN) <| And.intro (@UR) <| And.intro (@US) <| And.intro (@YY) <| And.intro (@Yf) <| And.intro (@YZ) <| And.intro (@Ya) <| And.intro (@Yc) <| And.intro (@Yj) <| And.intro (@Yi) <| And.intro (@Yk) <| And.intro (@RJ) <| And.intro (@UQ) <| And.intro (@Yh) <| And.intro (@Yg) <| And.intro (@Ye) <| And.intro (@YS) <| And.intro (@Qk) <| And.intro (@Nl) <| And.intro (@aI) <| And.intro (@Ut) <| And.intro (@Um) <| And.intro (@Zr) <| And.intro (@Zq) <| And.intro (@aL) <| And.intro (@Uw) <| And.intro (@Za) <| And.intro (@eW) <| And.intro (@UE) <| And.intro (@UF) <| And.intro (@eV) <| And.intro (@YO) <| And.intro (@Zi) <| And.intro (@gC) <| And.intro (@fq) <| And.intro (@ZU) <| And.intro (@Wm) <| And.intro (@Wk) <| And.intro (@eZ) <| And.intro (@eY) <| And.intro (@fw) <| And.intro (@Zc) <| And.intro (@Hz) <| And.intro (@UX) <| And.intro (@Yw) <| And.intro (@UY) <| And.intro (@fu) <| And.intro (@UP) <| And.intro (@Nw) <| And.intro (@RM) <| And.intro (@UL) <| And.intro (@UK) <| And.intro (@KU) <| And.intro (@RL) <| And.intro (@gN) <| And.intro (@VA) <| And.intro (@XS) <| And.intro (@Tp) <| And.intro (@XQ) <| And.intro (@XO) <| And.intro (@XR) <| And.intro (@Su) <| And.intro (@YH) <| And.intro (@QH) <| And.intro (@lp) <| And.intro (@ll) <| And.intro (@gK) <| And.intro (@UV) <| And.intro (@UU) <| And.intro (@Wn) <| And.intro (@dc) <| And.intro (@da) <| And.intro (@dZ) <| And.intro (@dY) <| And.intro (@dX) <| And.intro (@dW) <| And.intro (@dU) <| And.intro (@iT) <| And.intro (@lC) <| And.intro (@lx) <| And.intro (@lu) <| @ge_0):=And.intro (@AK) <| And.intro (@Aq) <| And.intro (@EW) <| And.intro (@ZS) <| And.intro (@Mv) <| And.intro (@Ux) <| And.intro (@fG) <| And.intro (@fF) <| And.intro (@fE) <| And.intro (@fD) <| And.intro (@fC) <| And.intro (@fB) <| And.intro (@fA) <| And.intro (@ez) <| And.intro (@ek) <| And.intro (@eg) <| And.intro (@Yn) <| And.intro (@eJ) <| And.intro (@eI) <| And.intro (@eH) <| And.intro (@eG) <| And.intro (@eF) <| And.intro (@eE) <| And.intro (@eD) <| And.intro (@eC) <| And.intro (@eB) <| And.intro (@eA) <| And.intro (@XE) <| And.intro (@my) <| And.intro (@qa) <| And.intro (@aJ) <| And.intro (@Uv) <| And.intro (@Zu) <| And.intro (@ia) <| And.intro (@iZ) <| And.intro (@iY) <| And.intro (@aG) <| And.intro (@gE) <| And.intro (@gJ) <| And.intro (@TU) <| And.intro (@gF) <| And.intro (@aH) <| And.intro (@jh) <| And.intro (@aA) <| And.intro (@TY) <| And.intro (@Zz) <| And.intro (@TV) <| And.intro (@Ur) <| And.intro (@XG) <| And.intro (@XF) <| And.intro (@jd) <| And.intro (@TX) <| And.intro (@dw) <| And.intro (@dv) <| And.intro (@du) <| And.intro (@dq) <| And.intro (@dk) <| And.intro (@di) <| And.intro (@dh) <| And.intro (@dg) <| And.intro (@df) <| And.intro (@Wu) <| And.intro (@gH) <| And.intro (@jk) <| And.intro (@jq) <| And.intro (@UN) <| And.intro (@UM) <| And.intro (@Zw) <| And.intro (@Zv) <| And.intro (@Zx) <| And.intro (@Zy) <| And.intro (@YT) <| And.intro (@YU) <| And.intro (@gG) <| And.intro (@YV) <| And.intro (@Tq) <| And.intro (@aC) <| And.intro (@RQ) <| And.intro (@Nz) <| And.intro (@Uq) <| And.intro (@OA) <| And.intro (@gI) <| And.intro (@Yb) <| And.intro (@Ny) <| And.intro (@Nx) <| And.intro (@Up) <| And.intro (@RK) <| And.intro (@eX) <| And.intro (@RN) <| And.intro (@UR) <| And.intro (@US) <| And.intro (@YY) <| And.intro (@Yf) <| And.intro (@YZ) <| And.intro (@Ya) <| And.intro (@Yc) <| And.intro (@Yj) <| And.intro (@Yi) <| And.intro (@Yk) <| And.intro (@RJ) <| And.intro (@UQ) <| And.intro (@Yh) <| And.intro (@Yg) <| And.intro (@Ye) <| And.intro (@YS) <| And.intro (@Qk) <| And.intro (@Nl) <| And.intro (@aI) <| And.intro (@Ut) <| And.intro (@Um) <| And.intro (@Zr) <| And.intro (@Zq) <| And.intro (@aL) <| And.intro (@Uw) <| And.intro (@Za) <| And.intro (@eW) <| And.intro (@UE) <| And.intro (@UF) <| And.intro (@eV) <| And.intro (@YO) <| And.intro (@Zi) <| And.intro (@gC) <| And.intro (@fq) <| And.intro (@ZU) <| And.intro (@Wm) <| And.intro (@Wk) <| And.intro (@eZ) <| And.intro (@eY) <| And.intro (@fw) <| And.intro (@Zc) <| And.intro (@Hz) <| And.intro (@UX) <| And.intro (@Yw) <| And.intro (@UY) <| And.intro (@fu) <| And.intro (@UP) <| And.intro (@Nw) <| And.intro (@RM) <| And.intro (@UL) <| And.intro (@UK) <| And.intro (@KU) <| And.intro (@RL) <| And.intro (@gN) <| And.intro (@VA) <| And.intro (@XS) <| And.intro (@Tp) <| And.intro (@XQ) <| And.intro (@XO) <| And.intro (@XR) <| And.intro (@Su) <| And.intro (@YH) <| And.intro (@QH) <| And.intro (@lp) <| And.intro (@ll) <| And.intro (@gK) <| And.intro (@UV) <| And.intro (@UU) <| And.intro (@Wn) <| And.intro (@dc) <| And.intro (@da) <| And.intro (@dZ) <| And.intro (@dY) <| And.intro (@dX) <| And.intro (@dW) <| And.intro (@dU) <| And.intro (@iT) <| And.intro (@lC) <| And.intro (@lx) <| And.intro (@lu) <| @ge_0
theorem sk:type_of% (And.intro (@dR) <| And.intro (@dQ) <| And.intro (@dS) <| And.intro (@kW) <| And.intro (@fY) <| And.intro (@fK) <| And.intro (@fc) <| And.intro (@fV) <| And.intro (@mF) <| And.intro (@fW) <| And.intro (@fJ) <| And.intro (@fX) <| And.intro (@ZJ) <| And.intro (@ZI) <| And.intro (@ZH) <| And.intro (@mM) <| And.intro (@mL) <| And.intro (@fk) <| And.intro (@fj) <| And.intro (@fi) <| And.intro (@fh) <| And.intro (@ZL) <| And.intro (@ZK) <| And.intro (@fQ) <| And.intro (@ZC) <| And.intro (@fg) <| And.intro (@mH) <| And.intro (@fU) <| And.intro (@mI) <| And.intro (@ZR) <| And.intro (@fT) <| And.intro (@ZM) <| And.intro (@mJ) <| And.intro (@ZP) <| And.intro (@mG) <| And.intro (@fM) <| And.intro (@fN) <| And.intro (@fP) <| And.intro (@fL) <| And.intro (@ZD) <| And.intro (@fR) <| And.intro (@ZN) <| And.intro (@ff) <| And.intro (@mK) <| And.intro (@fZ) <| And.intro (@RV) <| And.intro (@ZF) <| And.intro (@ZE) <| And.intro (@UZ) <| And.intro (@ZG) <| And.intro (@ZA) <| And.intro (@Yz) <| And.intro (@ZO) <| And.intro (@Ua) <| And.intro (@ZQ) <| And.intro (@Ub) <| @fS):=And.intro (@dR) <| And.intro (@dQ) <| And.intro (@dS) <| And.intro (@kW) <| And.intro (@fY) <| And.intro (@fK) <| And.intro (@fc) <| And.intro (@fV) <| And.intro (@mF) <| And.intro (@fW) <| And.intro (@fJ) <| And.intro (@fX) <| And.intro (@ZJ) <| And.intro (@ZI) <| And.intro (@ZH) <| And.intro (@mM) <| And.intro (@mL) <| And.intro (@fk) <| And.intro (@fj) <| And.intro (@fi) <| And.intro (@fh) <| And.intro (@ZL) <| And.intro (@ZK) <| And.intro (@fQ) <| And.intro (@ZC) <| And.intro (@fg) <| And.intro (@mH) <| And.intro (@fU) <| And.intro (@mI) <| And.intro (@ZR) <| And.intro (@fT) <| And.intro (@ZM) <| And.intro (@mJ) <| And.intro (@ZP) <| And.intro (@mG) <| And.intro (@fM) <| And.intro (@fN) <| And.intro (@fP) <| And.intro (@fL) <| And.intro (@ZD) <| And.intro (@fR) <| And.intro (@ZN) <| And.intro (@ff) <| And.intro (@mK) <| And.intro (@fZ) <| And.intro (@RV) <| And.intro (@ZF) <| And.intro (@ZE) <| And.intro (@UZ) <| And.intro (@ZG) <| And.intro (@ZA) <| And.intro (@Yz) <| And.intro (@ZO) <| And.intro (@Ua) <| And.intro (@ZQ) <| And.intro (@Ub) <| @fS
end Q
namespace My
open PySem L2 Q
abbrev St:=L2.St
abbrev fm (x:Dv):Option Dt:=some (mk false x)
abbrev tm (x:Dv):Option Dt:=some (mk true x)
def Pp:Es:=
    Ae [] (DL (Ca (AB kI [.rf 1,.ev (AB HA [.rf 0])])) (Ad (AB Af [.rf 0,.rf 1]) (Aj 2)) (DL (Ca (AB lg [.ev (AB HA [.rf 0]),.ev (Aa (.int 0))])) (Ad (AO (AB DV [.ev (AB JU [.ev (AB Jw [.ev (AB Af [.rf 0,.ev (AB Jw [.rf 1,.ev (AB HA [.rf 0])])]),.ev (Aa (.int 2147483629))]),.ev (Aa (.int 31))]),.ev (AB JU [.ev (Aa (.int 7907)),.rf 1])])) (Aj 2)) (BX)))
def Po:Es:=
    Ae [] (DL (Ca (AB pz [.rf 2,.ev (AB lb [.ev (Aa (.int 10)),.ev (Aa (.int 18))])])) (Ad (Ab 2) (Aj 3)) (BX))
def Pm:Es:=
    Al (Ad (AO (AB DV [.ev (AB JU [.ev (Aa (.int 7907)),.rf 1]),.ev (Aa (.int 13579))])) (Aj 2))
    (Al (Pp)
    (Al (Ad (AO (Aa (.int 0))) (Aj 3))
    (Al (Po)
    (Ae [0,1,2,3] (BG (BI (.lst true) [.ev (Ab 3),.ev (AO (AB DV [.ev (AB Jw [.ev (AB DV [.ev (AB JU [.ev (AB Jw [.rf 2,.ev (Aa (.int 2147483629))]),.ev (Aa (.int 48271))]),.ev (AB JU [.ev (Aa (.int 40692)),.rf 1])]),.ev (Aa (.int 2147483646))]),.ev (Aa (.int 1))]))]))))))
def HL (x0 x1 x2:Dv):Option Dv:=
 (Dx x0).bind fun t3 =>
 (kO x1 t3).bind fun b4 =>
 if b4=true then (AN x0 x1).bind fun t5 =>
 some t5 else (Dx x0).bind fun t6 =>
 (mi t6 (Dv.int 0)).bind fun b7 =>
 if b7=true then (Dx x0).bind fun t8 =>
 (GN x1 t8).bind fun t9 =>
 (AN x0 t9).bind fun t10 =>
 (GN t10 (Dv.int 2147483629)).bind fun t11 =>
 (Fj t11 (Dv.int 31)).bind fun t12 =>
 (Fj (Dv.int 7907) x1).bind fun t13 =>
 (Bm t12 t13).bind fun t14 =>
 some t14 else some x2
theorem MV (x0 x1 x2:Dv) (S:List Ob):Pp ⟨[fm x0,fm x1,fm x2,none],S⟩=(HL x0 x1 x2).map fun c=>(.nx,⟨[fm x0,fm x1,fm c,none],S⟩):=by
 simp only [↓sk,ss,Pp,HL,Nat.reduceAdd,Nat.reduceLeDiff]
def HK (x2 x3:Dv):Option Dv:=
 (mm (Dv.int 10) (Dv.int 18)).bind fun t16 =>
 (qL x2 t16).bind fun b17 =>
 if b17=true then some x2 else some x3
theorem TJ (x0 x1 x2 x3:Dv) (S:List Ob):Po ⟨[fm x0,fm x1,fm x2,fm x3],S⟩=(HK x2 x3).map fun c=>(.nx,⟨[fm x0,fm x1,fm x2,fm c],S⟩):=by
 simp only [↓sk,ss,Po,HK,MV,Nat.reduceAdd,Nat.reduceLeDiff]
def ES (x0 x1:Dv):Option Dv:=
 (Fj (Dv.int 7907) x1).bind fun t1 =>
 (Bm t1 (Dv.int 13579)).bind fun t2 =>
 (HL x0 x1 t2).bind fun c15 =>
 (HK c15 (Dv.int 0)).bind fun c18 =>
 (GN c15 (Dv.int 2147483629)).bind fun t19 =>
 (Fj t19 (Dv.int 48271)).bind fun t20 =>
 (Fj (Dv.int 40692) x1).bind fun t21 =>
 (Bm t20 t21).bind fun t22 =>
 (GN t22 (Dv.int 2147483646)).bind fun t23 =>
 (Bm t23 (Dv.int 1)).bind fun t24 =>
 some (Dv.lst [c18,t24])
theorem Zo (x0 x1:Dv) (S:List Ob):Bo 4 [] Pm [mk false x0,mk false x1] S=(Bx ES [x0,x1]).map fun r=>(mk true r.1,r.2.map (mk true),S):=by
 rw [UW,Cn true 4 [] Pm _ S [fm x0,fm x1,none,none] rfl];simp only [↓sk,ss,Pm,ES,MV,TJ,Nat.reduceAdd,Nat.reduceLeDiff]
def Pg:Es:=
    Al (DL (Ca (AB lg [.ev (AB Af [.rf 0,.ev (Aa (.int 0))]),.ev (Aa (.int 0))])) (Al (Ad (AB Jw [.ev (AB Af [.rf 0,.ev (Aa (.int 0))]),.rf 1]) (Aj 3))
    (Al (DK 0 (AO (AB iX [.ev (AB Af [.rf 0,.ev (Aa (.int 0))]),.rf 1])) (.ev (Aa (.int 0))))
    (Ae [1,2,3] (BG (Hb 3))))) (BX))
    (Al (Ad (AO (AB Jw [.ev (AB JU [.ev (AB Af [.rf 0,.ev (Aa (.int 1))]),.ev (Aa (.int 48271))]),.ev (Aa (.int 2147483647))])) (Aj 2))
    (Al (DK 0 (AO (AB DV [.ev (AB Jw [.ev (AB DV [.ev (AB JU [.rf 2,.ev (Aa (.int 40692))]),.ev (Aa (.int 30103))]),.ev (Aa (.int 2147483399))]),.ev (Aa (.int 1))])) (.ev (Aa (.int 1))))
    (Ae [1,2,3] (BG (AB Jw [.ev (AB iX [.ev (AB DV [.ev (AB JU [.rf 2,.ev (Aa (.int 2147483647))]),.ev (AB Af [.rf 0,.ev (Aa (.int 1))])]),.ev (Aa (.int 8191))]),.rf 1])))))
def AL (x0 x1:Dv):Option (Dv×Dv):=
 (AN x0 (Dv.int 0)).bind fun t1 =>
 (mi t1 (Dv.int 0)).bind fun b2 =>
 if b2=true then (AN x0 (Dv.int 0)).bind fun t3 =>
 (GN t3 x1).bind fun t4 =>
 (AN x0 (Dv.int 0)).bind fun t5 =>
 (dG t5 x1).bind fun t6 =>
 (CL x0 (Dv.int 0) t6).bind fun t7 =>
 some (t4,t7) else (AN x0 (Dv.int 1)).bind fun t8 =>
 (Fj t8 (Dv.int 48271)).bind fun t9 =>
 (GN t9 (Dv.int 2147483647)).bind fun t10 =>
 (Fj t10 (Dv.int 40692)).bind fun t11 =>
 (Bm t11 (Dv.int 30103)).bind fun t12 =>
 (GN t12 (Dv.int 2147483399)).bind fun t13 =>
 (Bm t13 (Dv.int 1)).bind fun t14 =>
 (CL x0 (Dv.int 1) t14).bind fun t15 =>
 (Fj t10 (Dv.int 2147483647)).bind fun t16 =>
 (AN t15 (Dv.int 1)).bind fun t17 =>
 (Bm t16 t17).bind fun t18 =>
 (dG t18 (Dv.int 8191)).bind fun t19 =>
 (GN t19 x1).bind fun t20 =>
 some (t20,t15)
theorem Zl (x0 x1:Dv) (S:List Ob):Bo 4 [0] Pg [mk true x0,mk false x1] S=(AR AL [x0,x1]).map fun r=>(mk true r.1,r.2.map (mk true),S):=by
 rw [OD,Cn true 4 [0] Pg _ S [tm x0,fm x1,none,none] rfl];simp only [↓sk,ss,Pg,AL,Nat.reduceAdd,Nat.reduceLeDiff]
def Mp:Ev Dt:=
    AB Af [.rf 2,.ev (AW (ups [true,false] true (AR AL)) 2 [0] [.rf 0,.ev (AO (Aa (.int 26)))])]
def MO:Es:=
    Ae [] (DL (Ca (AB qq [.rf 10,.ev (BI .tup [.ev (AO (Aa (.str [100,101,102]))),.ev (AO (Aa (.str [108,101,116]))),.ev (AO (Aa (.str [116,101,108,108]))),.ev (AO (Aa (.str [108,111,111,112]))),.ev (AO (Aa (.str [112,105,99,107]))),.ev (AO (Aa (.str [99,97,108,108])))])])) (Ad (AO (AB DV [.rf 10,.ev (Aa (.str [113]))])) (Aj 10)) (BX))
def Mz:Es:=
    Ae [8,9,10] (Al (Ad (AB Af [.rf 2,.ev (AB Jw [.ev (AB DV [.rf 4,.ev (AB JU [.ev (Aa (.int 7)),.rf 8])]),.ev (Aa (.int 26))])]) (Aj 9))
    (Al (Ad (AO (AB DV [.ev (AB DV [.ev (MT (.rf 3) (.ev (Ab 5))),.rf 9]),.ev (Rf (.rf 3) (.ev (Ab 5)) (.ev (AB Jw [.ev (AB DV [.rf 6,.rf 8]),.ev (Aa (.int 4))])))])) (Aj 10))
    (Al (MO)
    (DM (EJ 7 CI [.ev (Ab 10)])))))
def Ld:Ev Bool:=
    IU (Ca (AB lg [.rf 1,.ev (Aa (.int 1))])) (IU (Ca (AB kI [.ev (AB HA [.ev (AB Af [.rf 7,.ev (AB Qy [.ev (Aa (.int 2))])])]),.ev (Aa (.int 4))])) (Ca (AB YA [.ev (AW (ups [true,false] true (AR AL)) 2 [0] [.rf 0,.ev (AO (Aa (.int 4)))]),.ev (Aa (.int 0))])))
def MN:Es:=
    Ae [] (DL (Ld) (DK 7 (AO (AB DV [.ev (AB Af [.rf 7,.ev (AB Qy [.ev (Aa (.int 2))])]),.ev (Aa (.str [113]))])) (.ev (AB Qy [.ev (Aa (.int 1))]))) (BX))
def LI:Es:=
    Al (Ad (AO (Aa (.str [97,98,99,100,101,102,103,104,105,106,107,108,109,110,111,112,113,114,115,116,117,118,119,120,121,122]))) (Aj 2))
    (Al (Ad (AO (Hc "str" MA (.ev (Aa (.str []))) [.ev (BO (Bf (.ev (AW (ups [true,false] true (AR AL)) 2 [0] [.rf 0,.ev (AO (Aa (.int 4)))]))) [8] (Aj 8) Mp)])) (Aj 3))
    (Al (Rg 4 5 [.ev (AO (AW (ups [true,false] true (AR AL)) 2 [0] [.rf 0,.ev (AO (Aa (.int 26)))])),.ev (AO (AW (ups [true,false] true (AR AL)) 2 [0] [.rf 0,.ev (AO (AB DV [.ev (AB HA [.rf 3]),.ev (Aa (.int 1))]))]))])
    (Al (Ad (AO (AW (ups [true,false] true (AR AL)) 2 [0] [.rf 0,.ev (AO (Aa (.int 4)))])) (Aj 6))
    (Al (Ad (BI (.lst true) []) (Aj 7))
    (Al (CY (Ae [8,9,10] (Bf (.rf 1))) (Aj 8) Mz)
    (Al (MN)
    (Ae [1,2,3,4,5,6,7,8,9,10] (BG (Hb 7)))))))))
def El (x2:Dv) (it:Dv) (c:Dv):Option (Dv×Dv):=
 (AL c (Dv.int 26)).bind fun r3 =>
 (AN x2 r3.1).bind fun t4 =>
 some (t4,r3.2)
theorem EM (x0 x1 x2:Dv) (its:List Dv) (S:List Ob):FH [8] (Aj 8) Mp (Ar its) ⟨[tm x0,fm x1,fm x2,none,none,none,none,none,none,none,none],S⟩=(CM (El x2) its x0).map fun p=>(Ar p.1,⟨[tm p.2,fm x1,fm x2,none,none,none,none,none,none,none,none],S⟩):=Gi (E:=fun c:Dv=>⟨[tm c,fm x1,fm x2,none,none,none,none,none,none,none,none],S⟩) (fun it c=>by
 simp only [↓sk,ss,Mp,El,Nat.reduceAdd,Nat.reduceLeDiff]) its x0 _ rfl
def Fu (x10:Dv):Option Dv:=
 (rD x10 (Dv.tup [(Dv.str [100,101,102]),(Dv.str [108,101,116]),(Dv.str [116,101,108,108]),(Dv.str [108,111,111,112]),(Dv.str [112,105,99,107]),(Dv.str [99,97,108,108])])).bind fun b23 =>
 if b23=true then (Bm x10 (Dv.str [113])).bind fun t24 =>
 some t24 else some x10
theorem FS (x0 x1 x2 x3 x4 x5 x6 x7 x8 x9 x10:Dv) (S:List Ob):MO ⟨[tm x0,fm x1,fm x2,fm x3,fm x4,fm x5,fm x6,tm x7,fm x8,fm x9,fm x10],S⟩=(Fu x10).map fun c=>(.nx,⟨[tm x0,fm x1,fm x2,fm x3,fm x4,fm x5,fm x6,tm x7,fm x8,fm x9,fm c],S⟩):=by
 simp only [↓sk,ss,MO,Fu,EM,Nat.reduceAdd,Nat.reduceLeDiff]
def GC (x2 x3 x4 x5 x6:Dv) (it:Dv) (c:Dv):Option Dv:=
 (Fj (Dv.int 7) it).bind fun t13 =>
 (Bm x4 t13).bind fun t14 =>
 (GN t14 (Dv.int 26)).bind fun t15 =>
 (AN x2 t15).bind fun t16 =>
 (NF x3 x5).bind fun t17 =>
 (Bm t17 t16).bind fun t18 =>
 (Bm x6 it).bind fun t19 =>
 (GN t19 (Dv.int 4)).bind fun t20 =>
 (dF x3 x5 t20).bind fun t21 =>
 (Bm t18 t21).bind fun t22 =>
 (Fu t22).bind fun c25 =>
 (BP c c25).bind fun t26 =>
 some t26
def Hi (x0 x1 x2 x3 x4 x5 x6 x7:Dv) (its:List Dv) (S:List Ob):=HZ (tg:=(Aj 8)) (b:=Mz) (E:=fun c:Dv=>⟨[tm x0,fm x1,fm x2,fm x3,fm x4,fm x5,fm x6,tm c,none,none,none],S⟩) (g:=(GC x2 x3 x4 x5 x6)) (fun it c=>by
 simp only [↓sk,ss,Mz,GC,EM,FS,Nat.reduceAdd,Nat.reduceLeDiff]) its x7
def Fq (x0 x1 x7:Dv):Option (Bool×Dv):=
 (mi x1 (Dv.int 1)).bind fun b28 =>
 if b28=true then (QX (Dv.int 2)).bind fun t29 =>
 (AN x7 t29).bind fun t30 =>
 (Dx t30).bind fun t31 =>
 (kO t31 (Dv.int 4)).bind fun b32 =>
 if b32=true then (AL x0 (Dv.int 4)).bind fun r33 =>
 (WW r33.1 (Dv.int 0)).bind fun b34 =>
 some (b34,r33.2) else some (false,x0) else some (false,x0)
theorem KY (x0 x1 x2 x3 x4 x5 x6 x7:Dv) (S:List Ob):Ld ⟨[tm x0,fm x1,fm x2,fm x3,fm x4,fm x5,fm x6,tm x7,none,none,none],S⟩=(Fq x0 x1 x7).map fun c=>(c.1,⟨[tm c.2,fm x1,fm x2,fm x3,fm x4,fm x5,fm x6,tm x7,none,none,none],S⟩):=by
 simp only [↓sk,ss,Ld,Fq,EM,FS,Hi,Nat.reduceAdd,Nat.reduceLeDiff]
 all_goals simp only [Dh]
def Ft (x0 x1 x7:Dv):Option (Dv×Dv):=
 (Fq x0 x1 x7).bind fun c35 =>
 if c35.1=true then (QX (Dv.int 2)).bind fun t36 =>
 (AN x7 t36).bind fun t37 =>
 (Bm t37 (Dv.str [113])).bind fun t38 =>
 (QX (Dv.int 1)).bind fun t39 =>
 (CL x7 t39 t38).bind fun t40 =>
 some (c35.2,t40) else some (c35.2,x7)
theorem Rl (x0 x1 x2 x3 x4 x5 x6 x7:Dv) (S:List Ob):MN ⟨[tm x0,fm x1,fm x2,fm x3,fm x4,fm x5,fm x6,tm x7,none,none,none],S⟩=(Ft x0 x1 x7).map fun c=>(.nx,⟨[tm c.1,fm x1,fm x2,fm x3,fm x4,fm x5,fm x6,tm c.2,none,none,none],S⟩):=by
 simp only [↓sk,ss,MN,Ft,EM,FS,Hi,KY,Nat.reduceAdd,Nat.reduceLeDiff]
def DJ (x0 x1:Dv):Option (Dv×Dv):=
 (AL x0 (Dv.int 4)).bind fun r1 =>
 (BY r1.1).bind fun t2 =>
 (Gu t2 (CM (El (Dv.str [97,98,99,100,101,102,103,104,105,106,107,108,109,110,111,112,113,114,115,116,117,118,119,120,121,122])) t2 r1.2)).bind fun p5 =>
 (Jm (Dv.str []) (Dv.lst p5.1)).bind fun t6 =>
 (AL p5.2 (Dv.int 26)).bind fun r7 =>
 (Dx t6).bind fun t8 =>
 (Bm t8 (Dv.int 1)).bind fun t9 =>
 (AL r7.2 t9).bind fun r10 =>
 (AL r10.2 (Dv.int 4)).bind fun r11 =>
 (BY x1).bind fun t12 =>
 (Cm (GC (Dv.str [97,98,99,100,101,102,103,104,105,106,107,108,109,110,111,112,113,114,115,116,117,118,119,120,121,122]) t6 r7.1 r10.1 r11.1) t12 (Dv.lst [])).bind fun c27 =>
 (Ft r11.2 x1 c27).bind fun c41 =>
 some (c41.2,c41.1)
theorem WG (x0 x1:Dv) (S:List Ob):Bo 11 [0] LI [mk true x0,mk false x1] S=(AR DJ [x0,x1]).map fun r=>(mk true r.1,r.2.map (mk true),S):=by
 rw [OD,Cn true 11 [0] LI _ S [tm x0,fm x1,none,none,none,none,none,none,none,none,none] rfl];simp only [↓sk,ss,LI,DJ,EM,FS,Hi,KY,Rl,Nat.reduceAdd,Nat.reduceLeDiff]
def Mo:Ev Dt:=
    AO (AB DV [.ev (Hc "str" Ir (.ev (MT (.rf 5) (.ev (Aa (.int 1))))) []),.ev (Re (.rf 5) (.ev (Aa (.int 1))))])
def Mn:Ev Dt:=
    AO (BI .tup [.ev (AB Af [.rf 3,.rf 6]),.ev (AO (AB DV [.ev (Aa (.int 1)),.ev (AW (ups [true,false] true (AR AL)) 2 [0] [.rf 0,.ev (AO (Aa (.int 2)))])]))])
def LH:Es:=
    Al (Ad (AO (AW (ups [true,false] true (AR DJ)) 2 [0] [.rf 0,.ev (AO (Aa (.int 4)))])) (Aj 1))
    (Al (OM 2 (Ad (BO (Az (MT (.rf 1) (.ev (AW (ups [true,false] true (AR AL)) 2 [0] [.rf 0,.ev (AO (Aa (.int 4)))])))) [5] (Aj 5) Mo) (Aj 2)))
    (Al (Ad (AO (AW (ups [true,false] true (AR DJ)) 2 [0] [.rf 0,.ev (AO (Aa (.int 3)))])) (Aj 3))
    (Al (OM 4 (Ad (BO (Bf (.ev (AB Af [.ev (BI (.lst true) [.ev (AO (Aa (.int 1))),.ev (AO (Aa (.int 2))),.ev (AO (Aa (.int 3))),.ev (AO (Aa (.int 2))),.ev (AO (Aa (.int 3))),.ev (AO (Aa (.int 1))),.ev (AO (Aa (.int 2))),.ev (AO (Aa (.int 0)))]),.ev (AW (ups [true,false] true (AR AL)) 2 [0] [.rf 0,.ev (AO (Aa (.int 8)))])]))) [6] (Aj 6) Mn) (Aj 4)))
    (Ae [1,2,3,4,5,6] (BG (BI .tup [.ev (AO (AB Bp [.rf 2])),.ev (AO (AB Bp [.rf 4]))]))))))
def Fy (it:Dv):Option Dv:=
 (NF it (Dv.int 1)).bind fun t5 =>
 (Hq t5).bind fun t6 =>
 (Tb it (Dv.int 1)).bind fun t7 =>
 (Bm t6 t7).bind fun t8 =>
 some t8
def Ka (x0 x1:Dv) (its:List Dv) (S:List Ob):=DN (js:=[5]) (tg:=(Aj 5)) (f:=Mo) (m0:=⟨[tm x0,fm x1,none,none,none,none,none],S⟩) (g:=Fy) (fun it=>by
 simp only [↓sk,ss,Mo,Fy,Nat.reduceAdd,Nat.reduceLeDiff]) its
def Fw (x3:Dv) (it:Dv) (c:Dv):Option (Dv×Dv):=
 (AN x3 it).bind fun t14 =>
 (AL c (Dv.int 2)).bind fun r15 =>
 (Bm (Dv.int 1) r15.1).bind fun t16 =>
 some ((Dv.tup [t14,t16]),r15.2)
theorem Rm (x0 x1 x2 x3:Dv) (its:List Dv) (S:List Ob):FH [6] (Aj 6) Mn (Ar its) ⟨[tm x0,fm x1,fm x2,fm x3,none,none,none],S⟩=(CM (Fw x3) its x0).map fun p=>(Ar p.1,⟨[tm p.2,fm x1,fm x2,fm x3,none,none,none],S⟩):=Gi (E:=fun c:Dv=>⟨[tm c,fm x1,fm x2,fm x3,none,none,none],S⟩) (fun it c=>by
 simp only [↓sk,ss,Mn,Fw,Ka,Nat.reduceAdd,Nat.reduceLeDiff]) its x0 _ rfl
def Dd (x0:Dv):Option (Dv×Dv):=
 (DJ x0 (Dv.int 4)).bind fun r1 =>
 (AL r1.2 (Dv.int 4)).bind fun r2 =>
 (NF r1.1 r2.1).bind fun t3 =>
 (Ak t3).bind fun t4 =>
 (Gu t4 (Cv Fy t4)).bind fun p9 =>
 (DJ r2.2 (Dv.int 3)).bind fun r10 =>
 (AL r10.2 (Dv.int 8)).bind fun r11 =>
 (AN (Dv.lst [(Dv.int 1),(Dv.int 2),(Dv.int 3),(Dv.int 2),(Dv.int 3),(Dv.int 1),(Dv.int 2),(Dv.int 0)]) r11.1).bind fun t12 =>
 (BY t12).bind fun t13 =>
 (Gu t13 (CM (Fw r10.1) t13 r11.2)).bind fun p17 =>
 (Av (Dv.lst p9)).bind fun t18 =>
 (Av (Dv.lst p17.1)).bind fun t19 =>
 some ((Dv.tup [t18,t19]),p17.2)
theorem WE (x0:Dv) (S:List Ob):Bo 7 [0] LH [mk true x0] S=(Gd Dd [x0]).map fun r=>(mk true r.1,r.2.map (mk true),S):=by
 rw [mC,Cn true 7 [0] LH _ S [tm x0,none,none,none,none,none,none] rfl];simp only [↓sk,ss,LH,Dd,Ka,Rm,Nat.reduceAdd,Nat.reduceLeDiff]
def Ml:Ev Dt:=
    AO (AW (ups [true,false] true (AR AL)) 2 [0] [.rf 0,.ev (Ab 2)])
def Mk:Ev Dt:=
    AO (AW (ups [true,false] true (AR AL)) 2 [0] [.rf 0,.ev (Ab 2)])
def Mj:Ev Dt:=
    AO (AW (ups [true,false] true (AR AL)) 2 [0] [.rf 0,.ev (Ab 2)])
def Mi:Ev Dt:=
    AO (AB Bp [.ev (BO (Bf (.rf 2)) [8] (Aj 8) Mj)])
def Mw:Es:=
    Ae [5,6] (DL (Ca (AB YA [.rf 6,.ev (Aa (.int 1))])) (DM (EJ 4 CI [.ev (AO (AB Bp [.ev (BO (Bf (.rf 2)) [8] (Aj 8) Mk)]))])) (DM (EJ 4 CI [.ev (AO (AB Bp [.ev (BO (Bf (.rf 2)) [9] (Aj 9) Mi)]))])))
def LF:Es:=
    Al (Ad (AO (AB Bp [.ev (BO (Az (AB Af [.rf 1,.ev (Aa (.int 0))])) [7] (Aj 7) Ml)])) (Aj 3))
    (Al (Ad (BI (.lst true) []) (Aj 4))
    (Al (CY (Ae [5,6] (Az (AB Af [.rf 1,.ev (Aa (.int 1))]))) (Kv (AM (Aj 5) (AM (Aj 6) Bd))) Mw)
    (Ae [1,2,3,4,5,6,7,8,9] (BG (BI .tup [.ev (Ab 2),.ev (Ab 3),.ev (AO (AB Bp [.rf 4]))])))))
def Hu (x2:Dv) (it:Dv) (c:Dv):Option (Dv×Dv):=
 (AL c x2).bind fun r3 =>
 some (r3.1,r3.2)
theorem EL (x0 x1 x2:Dv) (its:List Dv) (S:List Ob):FH [7] (Aj 7) Ml (Ar its) ⟨[tm x0,fm x1,fm x2,none,none,none,none,none,none,none],S⟩=(CM (Hu x2) its x0).map fun p=>(Ar p.1,⟨[tm p.2,fm x1,fm x2,none,none,none,none,none,none,none],S⟩):=Gi (E:=fun c:Dv=>⟨[tm c,fm x1,fm x2,none,none,none,none,none,none,none],S⟩) (fun it c=>by
 simp only [↓sk,ss,Ml,Hu,Nat.reduceAdd,Nat.reduceLeDiff]) its x0 _ rfl
def Ht (x2:Dv) (it:Dv) (c:Dv):Option (Dv×Dv):=
 (AL c x2).bind fun r11 =>
 some (r11.1,r11.2)
theorem FT (x0 x1 x2 x3 x4 x5 x6:Dv) (its:List Dv) (S:List Ob):FH [8] (Aj 8) Mk (Ar its) ⟨[tm x0,fm x1,fm x2,fm x3,tm x4,fm x5,fm x6,none,none,none],S⟩=(CM (Ht x2) its x0).map fun p=>(Ar p.1,⟨[tm p.2,fm x1,fm x2,fm x3,tm x4,fm x5,fm x6,none,none,none],S⟩):=Gi (E:=fun c:Dv=>⟨[tm c,fm x1,fm x2,fm x3,tm x4,fm x5,fm x6,none,none,none],S⟩) (fun it c=>by
 simp only [↓sk,ss,Mk,Ht,EL,Nat.reduceAdd,Nat.reduceLeDiff]) its x0 _ rfl
def Hs (x2:Dv) (it:Dv) (c:Dv):Option (Dv×Dv):=
 (AL c x2).bind fun r17 =>
 some (r17.1,r17.2)
theorem Hf (x0 x1 x2 x3 x4 x5 x6 x9:Dv) (its:List Dv) (S:List Ob):FH [8] (Aj 8) Mj (Ar its) ⟨[tm x0,fm x1,fm x2,fm x3,tm x4,fm x5,fm x6,none,none,fm x9],S⟩=(CM (Hs x2) its x0).map fun p=>(Ar p.1,⟨[tm p.2,fm x1,fm x2,fm x3,tm x4,fm x5,fm x6,none,none,fm x9],S⟩):=Gi (E:=fun c:Dv=>⟨[tm c,fm x1,fm x2,fm x3,tm x4,fm x5,fm x6,none,none,fm x9],S⟩) (fun it c=>by
 simp only [↓sk,ss,Mj,Hs,EL,FT,Nat.reduceAdd,Nat.reduceLeDiff]) its x0 _ rfl
def Fv (x2:Dv) (it:Dv) (c:Dv):Option (Dv×Dv):=
 (BY x2).bind fun t16 =>
 (Gu t16 (CM (Hs x2) t16 c)).bind fun p18 =>
 (Av (Dv.lst p18.1)).bind fun t19 =>
 some (t19,p18.2)
theorem KZ (x0 x1 x2 x3 x4 x5 x6:Dv) (its:List Dv) (S:List Ob):FH [9] (Aj 9) Mi (Ar its) ⟨[tm x0,fm x1,fm x2,fm x3,tm x4,fm x5,fm x6,none,none,none],S⟩=(CM (Fv x2) its x0).map fun p=>(Ar p.1,⟨[tm p.2,fm x1,fm x2,fm x3,tm x4,fm x5,fm x6,none,none,none],S⟩):=Gi (E:=fun c:Dv=>⟨[tm c,fm x1,fm x2,fm x3,tm x4,fm x5,fm x6,none,none,none],S⟩) (fun it c=>by
 simp only [↓sk,ss,Mi,Fv,EL,FT,Hf,Nat.reduceAdd,Nat.reduceLeDiff]) its x0 _ rfl
def Em (x2:Dv) (it:Dv) (c:(Dv×Dv)):Option (Dv×Dv):=
 (SD it).bind fun p8 =>
 (WW p8.2 (Dv.int 1)).bind fun b9 =>
 if b9=true then (BY x2).bind fun t10 =>
 (Gu t10 (CM (Ht x2) t10 c.1)).bind fun p12 =>
 (Av (Dv.lst p12.1)).bind fun t13 =>
 (BP c.2 t13).bind fun t14 =>
 some (p12.2,t14) else (BY x2).bind fun t15 =>
 (Gu t15 (CM (Fv x2) t15 c.1)).bind fun p20 =>
 (Av (Dv.lst p20.1)).bind fun t21 =>
 (BP c.2 t21).bind fun t22 =>
 some (p20.2,t22)
theorem Ro (x0 x1 x2 x3 x4:Dv) (its:List Dv) (S:List Ob):forL (Kv (AM (Aj 5) (AM (Aj 6) Bd))) Mw (Ar its) ⟨[tm x0,fm x1,fm x2,fm x3,tm x4,none,none,none,none,none],S⟩=(Cm (Em x2) its (x0,x4)).map fun c=>(.nx,⟨[tm c.1,fm x1,fm x2,fm x3,tm c.2,none,none,none,none,none],S⟩):=HZ (E:=fun c:(Dv×Dv)=>⟨[tm c.1,fm x1,fm x2,fm x3,tm c.2,none,none,none,none,none],S⟩) (fun it c=>by
 simp only [↓sk,ss,Mw,Em,EL,FT,Hf,KZ,Nat.reduceAdd,Nat.reduceLeDiff]) its (x0,x4)
def CW (x0 x1 x2:Dv):Option (Dv×Dv):=
 (AN x1 (Dv.int 0)).bind fun t1 =>
 (Ak t1).bind fun t2 =>
 (Gu t2 (CM (Hu x2) t2 x0)).bind fun p4 =>
 (Av (Dv.lst p4.1)).bind fun t5 =>
 (AN x1 (Dv.int 1)).bind fun t6 =>
 (Ak t6).bind fun t7 =>
 (Cm (Em x2) t7 (p4.2,(Dv.lst []))).bind fun c23 =>
 (Av c23.2).bind fun t24 =>
 some ((Dv.tup [x2,t5,t24]),c23.1)
theorem WC (x0 x1 x2:Dv) (S:List Ob):Bo 10 [0] LF [mk true x0,mk false x1,mk false x2] S=(FZ CW [x0,x1,x2]).map fun r=>(mk true r.1,r.2.map (mk true),S):=by
 rw [mB,Cn true 10 [0] LF _ S [tm x0,fm x1,fm x2,none,none,none,none,none,none,none] rfl];simp only [↓sk,ss,LF,CW,EL,FT,Hf,KZ,Ro,Nat.reduceAdd,Nat.reduceLeDiff]
def Ho:Es:=
    Ae [] (DM (EJ 3 CI [.ev (EJ 2 JV [.ev (AW (ups [true,false] true (AR AL)) 2 [0] [.rf 0,.ev (AO (AB HA [.rf 2]))])])]))
def HI:Ev Bool:=
    Ca (AB lg [.ev (AB HA [.rf 2]),.ev (Aa (.int 0))])
def Gb:Es:=
    Al (Ad (AB Ez [.rf 1]) (Aj 2))
    (Al (Ad (BI (.lst true) []) (Aj 3))
    (Al (Zf [] (We HI Ho SI))
    (Ae [1,2,3] (BG (AB Bp [.rf 3])))))
def BV (c:(Dv×Dv×Dv)):Option (Dv×Dv×Dv):=
 (Dx c.2.1).bind fun t2 =>
 (AL c.1 t2).bind fun r3 =>
 (KN c.2.1 r3.1).bind fun t4 =>
 (BP c.2.2 t4.1).bind fun t5 =>
 some (r3.2,t4.2,t5)
def BU (c:(Dv×Dv×Dv)):Option Bool:=
 (Dx c.2.1).bind fun t6 =>
 (mi t6 (Dv.int 0)).bind fun b7 =>
 some b7
theorem Ma (x0 x1 x2 x3:Dv) (S:List Ob):We HI Ho SI ⟨[tm x0,fm x1,tm x2,tm x3],S⟩=(ar BU BV SI (x0,x2,x3)).map fun c=>(.nx,⟨[tm c.1,fm x1,tm c.2.1,tm c.2.2],S⟩):=kU (E:=fun c:(Dv×Dv×Dv)=>⟨[tm c.1,fm x1,tm c.2.1,tm c.2.2],S⟩) (fun c=>by
 simp only [↓sk,ss,HI,BU,Nat.reduceAdd,Nat.reduceLeDiff]) (fun c=>by
 simp only [↓sk,ss,Ho,BV,Nat.reduceAdd,Nat.reduceLeDiff]) SI (x0,x2,x3)
def Be (x0 x1:Dv):Option (Dv×Dv):=
 (Ep x1).bind fun t1 =>
 (ar BU BV SI (x0,t1,(Dv.lst []))).bind fun c8 =>
 (Av c8.2.2).bind fun t9 =>
 some (t9,c8.1)
theorem QB (x0 x1:Dv) (S:List Ob):Bo 4 [0] Gb [mk true x0,mk false x1] S=(AR Be [x0,x1]).map fun r=>(mk true r.1,r.2.map (mk true),S):=by
 rw [OD,Cn true 4 [0] Gb _ S [tm x0,fm x1,none,none] rfl];simp only [↓sk,ss,Gb,Be,Ma,Nat.reduceAdd,Nat.reduceLeDiff]
def JG:Ev Dt:=
    AO (IE Hy (Ab 2) [.rf 8])
def JF:Ev Dt:=
    AB Af [.rf 2,.ev (AB Af [.rf 7,.ev (AB Af [.rf 4,.rf 9])])]
def JE:Ev Dt:=
    AB Af [.rf 2,.ev (AB Af [.ev (AB Af [.rf 7,.ev (AB Af [.rf 4,.rf 9])]),.ev (AB Af [.rf 4,.rf 10])])]
def JD:Ev Dt:=
    AO (AB Bp [.ev (BO (Bf (.rf 3)) [10] (Aj 10) JE)])
def JI:Es:=
    Ae [6,7] (DL (Ca (AB YA [.ev (AB Af [.rf 6,.ev (Aa (.int 1))]),.ev (Aa (.int 1))])) (DM (EJ 5 CI [.ev (AO (AB Bp [.ev (BO (Bf (.rf 3)) [9] (Aj 9) JF)]))])) (DM (EJ 5 CI [.ev (AO (AB Bp [.ev (BO (Bf (.rf 3)) [9] (Aj 9) JD)]))])))
def JC:Ev Dt:=
    AB Af [.rf 2,.rf 8]
def IB:Es:=
    Al (Ad (AB Af [.rf 1,.ev (Aa (.int 0))]) (Aj 3))
    (Al (Ad (AO (BO (Bf (.rf 3)) [8] (Aj 8) JG)) (Aj 4))
    (Al (Ad (BI (.lst true) []) (Aj 5))
    (Al (CY (Ae [6,7] (Iy (AB Af [.rf 0,.ev (Aa (.int 1))]) (AB Af [.rf 1,.ev (Aa (.int 2))]))) (Kv (AM (Aj 6) (AM (Aj 7) Bd))) JI)
    (Ae [0,1,2,3,4,5,6,7,8,9,10] (BG (BI .tup [.ev (Ab 3),.ev (AO (AB Bp [.ev (BO (Az (AB Af [.rf 1,.ev (Aa (.int 1))])) [8] (Aj 8) JC)])),.ev (AO (AB Bp [.rf 5]))]))))))
def EI (x2:Dv) (it:Dv):Option Dv:=
 (FU x2 it).bind fun t3 =>
 some t3
def CT (x0 x1 x2 x3:Dv) (its:List Dv) (S:List Ob):=DN (js:=[8]) (tg:=(Aj 8)) (f:=JG) (m0:=⟨[fm x0,fm x1,fm x2,fm x3,none,none,none,none,none,none,none],S⟩) (g:=(EI x2)) (fun it=>by
 simp only [↓sk,ss,JG,EI,Nat.reduceAdd,Nat.reduceLeDiff]) its
def EH (x2 x4 x7:Dv) (it:Dv):Option Dv:=
 (AN x4 it).bind fun t12 =>
 (AN x7 t12).bind fun t13 =>
 (AN x2 t13).bind fun t14 =>
 some t14
def DI (x0 x1 x2 x3 x4 x5 x6 x7:Dv) (its:List Dv) (S:List Ob):=DN (js:=[9]) (tg:=(Aj 9)) (f:=JF) (m0:=⟨[fm x0,fm x1,fm x2,fm x3,fm x4,tm x5,fm x6,fm x7,none,none,none],S⟩) (g:=(EH x2 x4 x7)) (fun it=>by
 simp only [↓sk,ss,JF,EH,CT,Nat.reduceAdd,Nat.reduceLeDiff]) its
def EG (x2 x4 x7 x9:Dv) (it:Dv):Option Dv:=
 (AN x4 x9).bind fun t20 =>
 (AN x7 t20).bind fun t21 =>
 (AN x4 it).bind fun t22 =>
 (AN t21 t22).bind fun t23 =>
 (AN x2 t23).bind fun t24 =>
 some t24
def ED (x0 x1 x2 x3 x4 x5 x6 x7 x9:Dv) (its:List Dv) (S:List Ob):=DN (js:=[10]) (tg:=(Aj 10)) (f:=JE) (m0:=⟨[fm x0,fm x1,fm x2,fm x3,fm x4,tm x5,fm x6,fm x7,none,fm x9,none],S⟩) (g:=(EG x2 x4 x7 x9)) (fun it=>by
 simp only [↓sk,ss,JE,EG,CT,DI,Nat.reduceAdd,Nat.reduceLeDiff]) its
def DT (x2 x3 x4 x7:Dv) (it:Dv):Option Dv:=
 (BY x3).bind fun t19 =>
 (Gu t19 (Cv (EG x2 x4 x7 it) t19)).bind fun p25 =>
 (Av (Dv.lst p25)).bind fun t26 =>
 some t26
def Fe (x0 x1 x2 x3 x4 x5 x6 x7:Dv) (its:List Dv) (S:List Ob):=DN (js:=[9]) (tg:=(Aj 9)) (f:=JD) (m0:=⟨[fm x0,fm x1,fm x2,fm x3,fm x4,tm x5,fm x6,fm x7,none,none,none],S⟩) (g:=(DT x2 x3 x4 x7)) (fun it=>by
 simp only [↓sk,ss,JD,DT,CT,DI,ED,Nat.reduceAdd,Nat.reduceLeDiff]) its
def Cg (x2 x3 x4:Dv) (it:Dv) (c:Dv):Option Dv:=
 (SD it).bind fun p8 =>
 (AN p8.1 (Dv.int 1)).bind fun t9 =>
 (WW t9 (Dv.int 1)).bind fun b10 =>
 if b10=true then (BY x3).bind fun t11 =>
 (Gu t11 (Cv (EH x2 x4 p8.2) t11)).bind fun p15 =>
 (Av (Dv.lst p15)).bind fun t16 =>
 (BP c t16).bind fun t17 =>
 some t17 else (BY x3).bind fun t18 =>
 (Gu t18 (Cv (DT x2 x3 x4 p8.2) t18)).bind fun p27 =>
 (Av (Dv.lst p27)).bind fun t28 =>
 (BP c t28).bind fun t29 =>
 some t29
def IW (x0 x1 x2 x3 x4 x5:Dv) (its:List Dv) (S:List Ob):=HZ (tg:=(Kv (AM (Aj 6) (AM (Aj 7) Bd)))) (b:=JI) (E:=fun c:Dv=>⟨[fm x0,fm x1,fm x2,fm x3,fm x4,tm c,none,none,none,none,none],S⟩) (g:=(Cg x2 x3 x4)) (fun it c=>by
 simp only [↓sk,ss,JI,Cg,CT,DI,ED,Fe,Nat.reduceAdd,Nat.reduceLeDiff]) its x5
def DS (x2:Dv) (it:Dv):Option Dv:=
 (AN x2 it).bind fun t33 =>
 some t33
def NS (x0 x1 x2 x3 x4 x5:Dv) (its:List Dv) (S:List Ob):=DN (js:=[8]) (tg:=(Aj 8)) (f:=JC) (m0:=⟨[fm x0,fm x1,fm x2,fm x3,fm x4,tm x5,none,none,none,none,none],S⟩) (g:=(DS x2)) (fun it=>by
 simp only [↓sk,ss,JC,DS,CT,DI,ED,Fe,IW,Nat.reduceAdd,Nat.reduceLeDiff]) its
def CD (x0 x1 x2:Dv):Option Dv:=
 (AN x1 (Dv.int 0)).bind fun t1 =>
 (BY t1).bind fun t2 =>
 (Gu t2 (Cv (EI x2) t2)).bind fun p4 =>
 (AN x0 (Dv.int 1)).bind fun t5 =>
 (AN x1 (Dv.int 2)).bind fun t6 =>
 (OW t5 t6).bind fun t7 =>
 (Cm (Cg x2 t1 (Dv.lst p4)) t7 (Dv.lst [])).bind fun c30 =>
 (AN x1 (Dv.int 1)).bind fun t31 =>
 (Ak t31).bind fun t32 =>
 (Gu t32 (Cv (DS x2) t32)).bind fun p34 =>
 (Av (Dv.lst p34)).bind fun t35 =>
 (Av c30).bind fun t36 =>
 some (Dv.tup [t1,t35,t36])
theorem Rt (x0 x1 x2:Dv) (S:List Ob):Bo 11 [] IB [mk false x0,mk false x1,mk false x2] S=(Ck CD [x0,x1,x2]).map fun r=>(mk true r.1,r.2.map (mk true),S):=by
 rw [Yv,Cn true 11 [] IB _ S [fm x0,fm x1,fm x2,none,none,none,none,none,none,none,none] rfl];simp only [↓sk,ss,IB,CD,CT,DI,ED,Fe,IW,NS,Nat.reduceAdd,Nat.reduceLeDiff]
def LK:Es:=
    Al (Ad (AO (AW (ups [true,false,false] true (FZ CW)) 3 [0] [.rf 0,.ev (Ab 1),.ev (AO (AB DV [.ev (Aa (.int 1)),.ev (AW (ups [true,false] true (AR AL)) 2 [0] [.rf 0,.ev (AB Af [.ev (BI (.lst true) [.ev (AO (Aa (.int 12))),.ev (AO (Aa (.int 40)))]),.ev (AW (ups [true,false] true (AR AL)) 2 [0] [.rf 0,.ev (AO (Aa (.int 2)))])])])]))])) (Aj 2))
    (Al (Ad (AO (AW (ups [true,false] true (AR Be)) 2 [0] [.rf 0,.ev (AB Af [.rf 2,.ev (Aa (.int 0))])])) (Aj 3))
    (Al (Ad (AO (AW (ups [false,false,false] true (Ck CD)) 3 [] [.ev (Ab 1),.ev (Ab 2),.ev (Ab 3)])) (Aj 4))
    (Al (Ad (AB KS [.rf 3]) (Aj 5))
    (Al (DK 5 (AO (AW (ups [true,false] true (AR AL)) 2 [0] [.rf 0,.ev (AB Af [.rf 2,.ev (Aa (.int 0))])])) (.ev (AW (ups [true,false] true (AR AL)) 2 [0] [.rf 0,.ev (AB Af [.rf 2,.ev (Aa (.int 0))])])))
    (Ae [1,2,3,4,5] (BG (BI .tup [.ev (Ab 2),.ev (Ab 4),.ev (AO (BI (.lst true) [.ev (Ab 3),.ev (AO (AB Bp [.rf 5])),.ev (AO (Re (.rf 3) (.ev (Aa (.int 1))))),.ev (AO (AB DV [.rf 3,.ev (BI .tup [.ev (AO (Aa (.int 0)))])])),.ev (Ab 3)]))])))))))
def Ee (x0 x1:Dv):Option (Dv×Dv):=
 (AL x0 (Dv.int 2)).bind fun r1 =>
 (AN (Dv.lst [(Dv.int 12),(Dv.int 40)]) r1.1).bind fun t2 =>
 (AL r1.2 t2).bind fun r3 =>
 (Bm (Dv.int 1) r3.1).bind fun t4 =>
 (CW r3.2 x1 t4).bind fun r5 =>
 (AN r5.1 (Dv.int 0)).bind fun t6 =>
 (Be r5.2 t6).bind fun r7 =>
 (CD x1 r5.1 r7.1).bind fun r8 =>
 (IZ r7.1).bind fun t9 =>
 (AN r5.1 (Dv.int 0)).bind fun t10 =>
 (AL r7.2 t10).bind fun r11 =>
 (AN r5.1 (Dv.int 0)).bind fun t12 =>
 (AL r11.2 t12).bind fun r13 =>
 (CL t9 r13.1 r11.1).bind fun t14 =>
 (Av t14).bind fun t15 =>
 (Tb r7.1 (Dv.int 1)).bind fun t16 =>
 (Bm r7.1 (Dv.tup [(Dv.int 0)])).bind fun t17 =>
 some ((Dv.tup [r5.1,r8,(Dv.lst [r7.1,t15,t16,t17,r7.1])]),r13.2)
theorem WI (x0 x1:Dv) (S:List Ob):Bo 6 [0] LK [mk true x0,mk false x1] S=(AR Ee [x0,x1]).map fun r=>(mk true r.1,r.2.map (mk true),S):=by
 rw [OD,Cn true 6 [0] LK _ S [tm x0,fm x1,none,none,none,none] rfl];simp only [↓sk,ss,LK,Ee,Nat.reduceAdd,Nat.reduceLeDiff]
def QL:Ev Dt:=
    AO (AB Jw [.rf 7,.rf 2])
def QQ:Es:=
    Ae [6] (DL (FE (.ev (AB Ki [.ev (AB Af [.rf 5,.rf 6]),.ev (Aa (.ty "tuple"))]))) (DK 5 (AO (AB Bp [.ev (BO (Az (AB Af [.rf 5,.rf 6])) [7] (Aj 7) QL)])) (.rf 6)) (DK 5 (AO (AB Jw [.ev (AB Af [.rf 5,.rf 6]),.rf 2])) (.rf 6)))
def QP:Es:=
    Ae [4,5,6] (Al (Ad (AB KS [.rf 4]) (Aj 5))
    (Al (CY (Ae [6] (Bf (.ev (AB HA [.rf 5])))) (Aj 6) QQ)
    (DM (EJ 3 CI [.ev (AO (AB Bp [.rf 5]))]))))
def Pj:Es:=
    Al (Ad (AO (AB DV [.ev (Aa (.int 1)),.ev (AW (ups [true,false] true (AR AL)) 2 [0] [.rf 0,.ev (AB Af [.rf 1,.ev (Aa (.int 0))])])])) (Aj 2))
    (Al (Ad (BI (.lst true) []) (Aj 3))
    (Al (CY (Ae [4,5,6] (Az (AB Af [.rf 1,.ev (Aa (.int 2))]))) (Aj 4) QP)
    (Ae [1,2,3,4,5,6,7] (BG (BI .tup [.ev (AB Af [.rf 1,.ev (Aa (.int 0))]),.ev (AB Af [.rf 1,.ev (Aa (.int 1))]),.ev (AO (AB Bp [.rf 3]))])))))
def Fz (x2:Dv) (it:Dv):Option Dv:=
 (GN it x2).bind fun t13 =>
 some t13
def Iz (x0 x1 x2 x3 x4 x5 x6:Dv) (its:List Dv) (S:List Ob):=DN (js:=[7]) (tg:=(Aj 7)) (f:=QL) (m0:=⟨[tm x0,fm x1,fm x2,tm x3,fm x4,tm x5,fm x6,none],S⟩) (g:=(Fz x2)) (fun it=>by
 simp only [↓sk,ss,QL,Fz,Nat.reduceAdd,Nat.reduceLeDiff]) its
def CP (x2:Dv) (it:Dv) (c:Dv):Option Dv:=
 (AN c it).bind fun t9 =>
 (Jl t9 (Dv.ty "tuple")).bind fun b10 =>
 if b10=true then (AN c it).bind fun t11 =>
 (Ak t11).bind fun t12 =>
 (Gu t12 (Cv (Fz x2) t12)).bind fun p14 =>
 (Av (Dv.lst p14)).bind fun t15 =>
 (CL c it t15).bind fun t16 =>
 some t16 else (AN c it).bind fun t17 =>
 (GN t17 x2).bind fun t18 =>
 (CL c it t18).bind fun t19 =>
 some t19
def Mb (x0 x1 x2 x3 x4 x5:Dv) (its:List Dv) (S:List Ob):=HZ (tg:=(Aj 6)) (b:=QQ) (E:=fun c:Dv=>⟨[tm x0,fm x1,fm x2,tm x3,fm x4,tm c,none,none],S⟩) (g:=(CP x2)) (fun it c=>by
 simp only [↓sk,ss,QQ,CP,Iz,Nat.reduceAdd,Nat.reduceLeDiff]) its x5
def Dc (x2:Dv) (it:Dv) (c:Dv):Option Dv:=
 (IZ it).bind fun t6 =>
 (Dx t6).bind fun t7 =>
 (BY t7).bind fun t8 =>
 (Cm (CP x2) t8 t6).bind fun c20 =>
 (Av c20).bind fun t21 =>
 (BP c t21).bind fun t22 =>
 some t22
def TM (x0 x1 x2 x3:Dv) (its:List Dv) (S:List Ob):=HZ (tg:=(Aj 4)) (b:=QP) (E:=fun c:Dv=>⟨[tm x0,fm x1,fm x2,tm c,none,none,none,none],S⟩) (g:=(Dc x2)) (fun it c=>by
 simp only [↓sk,ss,QP,Dc,Iz,Mb,Nat.reduceAdd,Nat.reduceLeDiff]) its x3
def Ex (x0 x1:Dv):Option (Dv×Dv):=
 (AN x1 (Dv.int 0)).bind fun t1 =>
 (AL x0 t1).bind fun r2 =>
 (Bm (Dv.int 1) r2.1).bind fun t3 =>
 (AN x1 (Dv.int 2)).bind fun t4 =>
 (Ak t4).bind fun t5 =>
 (Cm (Dc t3) t5 (Dv.lst [])).bind fun c23 =>
 (AN x1 (Dv.int 0)).bind fun t24 =>
 (AN x1 (Dv.int 1)).bind fun t25 =>
 (Av c23).bind fun t26 =>
 some ((Dv.tup [t24,t25,t26]),r2.2)
theorem Zn (x0 x1:Dv) (S:List Ob):Bo 8 [0] Pj [mk true x0,mk false x1] S=(AR Ex [x0,x1]).map fun r=>(mk true r.1,r.2.map (mk true),S):=by
 rw [OD,Cn true 8 [0] Pj _ S [tm x0,fm x1,none,none,none,none,none,none] rfl];simp only [↓sk,ss,Pj,Ex,Iz,Mb,TM,Nat.reduceAdd,Nat.reduceLeDiff]
def Gf:Es:=
    Ae [] (DL (Ca (AB YA [.ev (AW (ups [true,false] true (AR AL)) 2 [0] [.rf 0,.ev (AO (Aa (.int 2)))]),.ev (Aa (.int 0))])) (Ad (AO (AW (ups [true,false] true (AR Ex)) 2 [0] [.rf 0,.ev (Ab 2)])) (Aj 2)) (BX))
def Ge:Es:=
    Ae [] (DL (Ca (AB YA [.rf 3,.ev (Aa (.int 3))])) (Ad (AO (AW (ups [true,false] true (AR Ex)) 2 [0] [.rf 0,.ev (Ab 4)])) (Aj 4)) (BX))
def FP:Es:=
    Al (Ad (AO (AW (ups [true,false,false] true (FZ CW)) 3 [0] [.rf 0,.ev (Ab 1),.ev (AO (AB DV [.ev (Aa (.int 1)),.ev (AW (ups [true,false] true (AR AL)) 2 [0] [.rf 0,.ev (AO (Aa (.int 4)))])]))])) (Aj 2))
    (Al (Gf)
    (Al (Ad (AO (AW (ups [true,false] true (AR AL)) 2 [0] [.rf 0,.ev (AO (Aa (.int 5)))])) (Aj 3))
    (Al (DL (Ca (AB YA [.rf 3,.ev (Aa (.int 0))])) (Ae [1,2,3,4] (BG (BI .tup [.ev (Ab 2),.ev (Ab 2)]))) (BX))
    (Al (DL (Ca (AB kI [.rf 3,.ev (Aa (.int 3))])) (Ae [1,2,3,4] (BG (BI .tup [.ev (Ab 2),.ev (AO (AW (ups [false,false,false] true (Ck CD)) 3 [] [.ev (Ab 1),.ev (Ab 2),.ev (AO (AW (ups [true,false] true (AR Be)) 2 [0] [.rf 0,.ev (AB Af [.rf 2,.ev (Aa (.int 0))])]))]))]))) (BX))
    (Al (Ad (AO (AW (ups [true,false,false] true (FZ CW)) 3 [0] [.rf 0,.ev (Ab 1),.ev (AO (AB DV [.ev (Aa (.int 1)),.ev (AW (ups [true,false] true (AR AL)) 2 [0] [.rf 0,.ev (AO (Aa (.int 4)))])]))])) (Aj 4))
    (Al (Ge)
    (Ae [1,2,3,4] (BG (BI .tup [.ev (Ab 2),.ev (Ab 4)])))))))))
def DC (x0 x2:Dv):Option (Dv×Dv):=
 (AL x0 (Dv.int 2)).bind fun r4 =>
 (WW r4.1 (Dv.int 0)).bind fun b5 =>
 if b5=true then (Ex r4.2 x2).bind fun r6 =>
 some (r6.2,r6.1) else some (r4.2,x2)
theorem Gw (x0 x1 x2:Dv) (S:List Ob):Gf ⟨[tm x0,fm x1,fm x2,none,none],S⟩=(DC x0 x2).map fun c=>(.nx,⟨[tm c.1,fm x1,fm c.2,none,none],S⟩):=by
 simp only [↓sk,ss,Gf,DC,Nat.reduceAdd,Nat.reduceLeDiff]
def DB (x0 x3 x4:Dv):Option (Dv×Dv):=
 (WW x3 (Dv.int 3)).bind fun b17 =>
 if b17=true then (Ex x0 x4).bind fun r18 =>
 some (r18.2,r18.1) else some (x0,x4)
theorem Kn (x0 x1 x2 x3 x4:Dv) (S:List Ob):Ge ⟨[tm x0,fm x1,fm x2,fm x3,fm x4],S⟩=(DB x0 x3 x4).map fun c=>(.nx,⟨[tm c.1,fm x1,fm x2,fm x3,fm c.2],S⟩):=by
 simp only [↓sk,ss,Ge,DB,Gw,Nat.reduceAdd,Nat.reduceLeDiff]
def Bs (x0 x1:Dv):Option (Dv×Dv):=
 (AL x0 (Dv.int 4)).bind fun r1 =>
 (Bm (Dv.int 1) r1.1).bind fun t2 =>
 (CW r1.2 x1 t2).bind fun r3 =>
 (DC r3.2 r3.1).bind fun c7 =>
 (AL c7.1 (Dv.int 5)).bind fun r8 =>
 (WW r8.1 (Dv.int 0)).bind fun b9 =>
 if b9=true then some ((Dv.tup [c7.2,c7.2]),r8.2) else (kO r8.1 (Dv.int 3)).bind fun b10 =>
 if b10=true then (AN c7.2 (Dv.int 0)).bind fun t11 =>
 (Be r8.2 t11).bind fun r12 =>
 (CD x1 c7.2 r12.1).bind fun r13 =>
 some ((Dv.tup [c7.2,r13]),r12.2) else (AL r8.2 (Dv.int 4)).bind fun r14 =>
 (Bm (Dv.int 1) r14.1).bind fun t15 =>
 (CW r14.2 x1 t15).bind fun r16 =>
 (DB r16.2 r8.1 r16.1).bind fun c19 =>
 some ((Dv.tup [c7.2,c19.2]),c19.1)
theorem NW (x0 x1:Dv) (S:List Ob):Bo 5 [0] FP [mk true x0,mk false x1] S=(AR Bs [x0,x1]).map fun r=>(mk true r.1,r.2.map (mk true),S):=by
 rw [OD,Cn true 5 [0] FP _ S [tm x0,fm x1,none,none,none] rfl];simp only [↓sk,ss,FP,Bs,Gw,Kn,Nat.reduceAdd,Nat.reduceLeDiff]
def Hl:Ev Dt:=
    AO (BI .tup [.ev (Ab 3),.ev (Ab 4)])
def Hn:Es:=
    Ae [3] (DM (EJ 2 GG [.ev (BO (Bf (.rf 1)) [4] (Aj 4) Hl)]))
def Ga:Es:=
    Al (Ad (BI (.lst true) []) (Aj 2))
    (Al (CY (Ae [3] (Az (Ab 0))) (Aj 3) Hn)
    (Ae [0,1,2,3,4] (BG (Hb 2))))
noncomputable def Ed (x3:Dv) (it:Dv):Option Dv:=
 some (Dv.tup [x3,it])
def Hg (x0 x1 x2 x3:Dv) (its:List Dv) (S:List Ob):=DN (js:=[4]) (tg:=(Aj 4)) (f:=Hl) (m0:=⟨[fm x0,fm x1,tm x2,fm x3,none],S⟩) (g:=(Ed x3)) (fun it=>by
 simp only [↓sk,ss,Hl,Ed,Nat.reduceAdd,Nat.reduceLeDiff]) its
def Da (x1:Dv) (it:Dv) (c:Dv):Option Dv:=
 (BY x1).bind fun t2 =>
 (Gu t2 (Cv (Ed it) t2)).bind fun p3 =>
 (IH c (Dv.lst p3)).bind fun t4 =>
 some t4
def MZ (x0 x1 x2:Dv) (its:List Dv) (S:List Ob):=HZ (tg:=(Aj 3)) (b:=Hn) (E:=fun c:Dv=>⟨[fm x0,fm x1,tm c,none,none],S⟩) (g:=(Da x1)) (fun it c=>by
 simp only [↓sk,ss,Hn,Da,Hg,Nat.reduceAdd,Nat.reduceLeDiff]) its x2
def Ci (x0 x1:Dv):Option Dv:=
 (Ak x0).bind fun t1 =>
 (Cm (Da x1) t1 (Dv.lst [])).bind fun c5 =>
 some c5
theorem Pu (x0 x1:Dv) (S:List Ob):Bo 5 [] Ga [mk false x0,mk false x1] S=(Bx Ci [x0,x1]).map fun r=>(mk true r.1,r.2.map (mk true),S):=by
 rw [UW,Cn true 5 [] Ga _ S [fm x0,fm x1,none,none,none] rfl];simp only [↓sk,ss,Ga,Ci,Hg,MZ,Nat.reduceAdd,Nat.reduceLeDiff]
def QK:Ev Dt:=
    AO (AB DV [.rf 4,.ev (BI .tup [.ev (Ab 5)])])
def QN:Es:=
    Ae [3] (Ad (BO (Az (AW (ups [false,false] true (Bx Ci)) 2 [] [.ev (Ab 2),.ev (Ab 0)])) [4,5] (Kv (AM (Aj 4) (AM (Aj 5) Bd))) QK) (Aj 2))
def Pi:Es:=
    Al (Ad (BI (.lst true) [.ev (AO (BI .tup []))]) (Aj 2))
    (Al (CY (Ae [3] (Bf (.rf 1))) (Aj 3) QN)
    (Ae [0,1,2,3,4,5] (BG (Hb 2))))
def HP (it:Dv):Option Dv:=
 (SD it).bind fun p4 =>
 (Bm p4.1 (Dv.tup [p4.2])).bind fun t5 =>
 some t5
def MX (x0 x1 x2 x3:Dv) (its:List Dv) (S:List Ob):=DN (js:=[4,5]) (tg:=(Kv (AM (Aj 4) (AM (Aj 5) Bd)))) (f:=QK) (m0:=⟨[fm x0,fm x1,fm x2,fm x3,none,none],S⟩) (g:=HP) (fun it=>by
 simp only [↓sk,ss,QK,HP,Nat.reduceAdd,Nat.reduceLeDiff]) its
def HS (x0:Dv) (it:Dv) (c:Dv):Option Dv:=
 (Ci c x0).bind fun r2 =>
 (Ak r2).bind fun t3 =>
 (Gu t3 (Cv HP t3)).bind fun p6 =>
 some (Dv.lst p6)
def TL (x0 x1 x2:Dv) (its:List Dv) (S:List Ob):=HZ (tg:=(Aj 3)) (b:=QN) (E:=fun c:Dv=>⟨[fm x0,fm x1,tm c,none,none,none],S⟩) (g:=(HS x0)) (fun it c=>by
 simp only [↓sk,ss,QN,HS,MX,Nat.reduceAdd,Nat.reduceLeDiff]) its x2
def HV (x0 x1:Dv):Option Dv:=
 (BY x1).bind fun t1 =>
 (Cm (HS x0) t1 (Dv.lst [(Dv.tup [])])).bind fun c7 =>
 some c7
theorem Zm (x0 x1:Dv) (S:List Ob):Bo 6 [] Pi [mk false x0,mk false x1] S=(Bx HV [x0,x1]).map fun r=>(mk true r.1,r.2.map (mk true),S):=by
 rw [UW,Cn true 6 [] Pi _ S [fm x0,fm x1,none,none,none,none] rfl];simp only [↓sk,ss,Pi,HV,MX,TL,Nat.reduceAdd,Nat.reduceLeDiff]
def Mq:Ev Dt:=
    AB Af [.rf 3,.rf 9]
def Le:Ev Bool:=
    IU (Ca (AB YA [.ev (AB Af [.rf 4,.ev (Aa (.int 1))]),.ev (Aa (.int 1))])) (Ca (AB cB [.ev (AB Af [.rf 3,.ev (AB Af [.rf 5,.rf 7])]),.ev (AB Af [.rf 6,.ev (AB Af [.rf 3,.rf 7])])]))
def NC:Es:=
    Ae [8] (DL (Ca (AB cB [.ev (AB Af [.rf 3,.ev (AB Af [.ev (AB Af [.rf 5,.rf 7]),.rf 8])]),.ev (AB Af [.ev (AB Af [.rf 6,.ev (AB Af [.rf 3,.rf 7])]),.ev (AB Af [.rf 3,.rf 8])])])) (Ae [0,1,2,3,4,5,6,7,8,9] (BG (Aa (.bl false)))) (BX))
def NB:Es:=
    Ae [7,8] (Al (DL (Le) (Ae [0,1,2,3,4,5,6,7,8,9] (BG (Aa (.bl false)))) (BX))
    (CY (Ae [8] (Bf (.ev (AB JU [.ev (AB Af [.rf 1,.ev (Aa (.int 0))]),.ev (AB cA [.ev (AB Af [.rf 4,.ev (Aa (.int 1))]),.ev (Aa (.int 1))])])))) (Aj 8) NC))
def NA:Es:=
    Ae [4,5,6,7,8] (CY (Ae [7,8] (Bf (.ev (AB Af [.rf 1,.ev (Aa (.int 0))])))) (Aj 7) NB)
def LJ:Es:=
    Al (DL (Ca (AB cB [.ev (BO (Az (AB Af [.rf 1,.ev (Aa (.int 1))])) [9] (Aj 9) Mq),.ev (AB KS [.ev (AB Af [.rf 2,.ev (Aa (.int 1))])])])) (Ae [0,1,2,3,4,5,6,7,8,9] (BG (Aa (.bl false)))) (BX))
    (Al (CY (Ae [4,5,6,7,8] (Iw (AB Af [.rf 0,.ev (Aa (.int 1))]) (AB Af [.rf 1,.ev (Aa (.int 2))]) (AB Af [.rf 2,.ev (Aa (.int 2))]))) (Kv (AM (Aj 4) (AM (Aj 5) (AM (Aj 6) Bd)))) NA)
    (Ae [0,1,2,3,4,5,6,7,8,9] (BG (Aa (.bl true)))))
def Do (x3:Dv) (it:Dv):Option Dv:=
 (AN x3 it).bind fun t3 =>
 some t3
def EN (x0 x1 x2 x3:Dv) (its:List Dv) (S:List Ob):=DN (js:=[9]) (tg:=(Aj 9)) (f:=Mq) (m0:=⟨[fm x0,fm x1,fm x2,fm x3,none,none,none,none,none,none],S⟩) (g:=(Do x3)) (fun it=>by
 simp only [↓sk,ss,Mq,Do,Nat.reduceAdd,Nat.reduceLeDiff]) its
def Co (x3 x4 x5 x6 x7:Dv):Option Bool:=
 (AN x4 (Dv.int 1)).bind fun t15 =>
 (WW t15 (Dv.int 1)).bind fun b16 =>
 if b16=true then (AN x5 x7).bind fun t17 =>
 (AN x3 t17).bind fun t18 =>
 (AN x3 x7).bind fun t19 =>
 (AN x6 t19).bind fun t20 =>
 (WU t18 t20).bind fun b21 =>
 some b21 else some false
theorem FR (x0 x1 x2 x3 x4 x5 x6 x7:Dv) (S:List Ob):Le ⟨[fm x0,fm x1,fm x2,fm x3,fm x4,fm x5,fm x6,fm x7,none,none],S⟩=(Co x3 x4 x5 x6 x7).map fun c=>(c,⟨[fm x0,fm x1,fm x2,fm x3,fm x4,fm x5,fm x6,fm x7,none,none],S⟩):=by
 simp only [↓sk,ss,Le,Co,EN,Nat.reduceAdd,Nat.reduceLeDiff]
 all_goals simp only [Dh]
def En (x3 x5 x6 x7:Dv) (it:Dv) (c:Unit):Option (Lp Bool Unit Unit):=
 (AN x5 x7).bind fun t28 =>
 (AN t28 it).bind fun t29 =>
 (AN x3 t29).bind fun t30 =>
 (AN x3 x7).bind fun t31 =>
 (AN x6 t31).bind fun t32 =>
 (AN x3 it).bind fun t33 =>
 (AN t32 t33).bind fun t34 =>
 (WU t30 t34).bind fun b35 =>
 if b35=true then some (Lp.rt false ()) else some (Lp.go ())
def Hj (x0 x1 x2 x3 x4 x5 x6 x7:Dv) (its:List Dv) (S:List Ob):=Ha (tg:=(Aj 8)) (b:=NC) (w:=Dv.bl) (E:=fun c:Unit=>⟨[fm x0,fm x1,fm x2,fm x3,fm x4,fm x5,fm x6,fm x7,none,none],S⟩) (Er:=fun c:Unit=>⟨[none,none,none,none,none,none,none,none,none,none],S⟩) (μ:=true) (g:=(En x3 x5 x6 x7)) (fun it c=>by
 simp only [↓sk,ss,NC,En,EN,FR,Nat.reduceAdd,Nat.reduceLeDiff]) its ()
def Bq (x1 x3 x4 x5 x6:Dv) (it:Dv) (c:Unit):Option (Lp Bool Unit Unit):=
 (Co x3 x4 x5 x6 it).bind fun c22 =>
 if c22=true then some (Lp.rt false ()) else (AN x1 (Dv.int 0)).bind fun t23 =>
 (AN x4 (Dv.int 1)).bind fun t24 =>
 (SE t24 (Dv.int 1)).bind fun t25 =>
 (Fj t23 t25).bind fun t26 =>
 (BY t26).bind fun t27 =>
 (EX (En x3 x5 x6 it) t27 ()).bind fun l37=>l37.el (fun c36 =>
 some (Lp.go ())) fun d38 r39=>some (Lp.rt d38 ())
def Kc (x0 x1 x2 x3 x4 x5 x6:Dv) (its:List Dv) (S:List Ob):=Ha (tg:=(Aj 7)) (b:=NB) (w:=Dv.bl) (E:=fun c:Unit=>⟨[fm x0,fm x1,fm x2,fm x3,fm x4,fm x5,fm x6,none,none,none],S⟩) (Er:=fun c:Unit=>⟨[none,none,none,none,none,none,none,none,none,none],S⟩) (μ:=true) (g:=(Bq x1 x3 x4 x5 x6)) (fun it c=>by
 simp only [↓sk,ss,NB,Bq,EN,FR,Hj,Nat.reduceAdd,Nat.reduceLeDiff]) its ()
def GD (x1 x3:Dv) (it:Dv) (c:Unit):Option (Lp Bool Unit Unit):=
 (gL it).bind fun p12 =>
 (AN x1 (Dv.int 0)).bind fun t13 =>
 (BY t13).bind fun t14 =>
 (EX (Bq x1 x3 p12.1 p12.2.1 p12.2.2) t14 ()).bind fun l41=>l41.el (fun c40 =>
 some (Lp.go ())) fun d42 r43=>some (Lp.rt d42 ())
def Rq (x0 x1 x2 x3:Dv) (its:List Dv) (S:List Ob):=Ha (tg:=(Kv (AM (Aj 4) (AM (Aj 5) (AM (Aj 6) Bd))))) (b:=NA) (w:=Dv.bl) (E:=fun c:Unit=>⟨[fm x0,fm x1,fm x2,fm x3,none,none,none,none,none,none],S⟩) (Er:=fun c:Unit=>⟨[none,none,none,none,none,none,none,none,none,none],S⟩) (μ:=true) (g:=(GD x1 x3)) (fun it c=>by
 simp only [↓sk,ss,NA,GD,EN,FR,Hj,Kc,Nat.reduceAdd,Nat.reduceLeDiff]) its ()
def Dz (x0 x1 x2 x3:Dv):Option Bool:=
 (AN x1 (Dv.int 1)).bind fun t1 =>
 (Ak t1).bind fun t2 =>
 (Gu t2 (Cv (Do x3) t2)).bind fun p4 =>
 (AN x2 (Dv.int 1)).bind fun t5 =>
 (IZ t5).bind fun t6 =>
 (WU (Dv.lst p4) t6).bind fun b7 =>
 if b7=true then some false else (AN x0 (Dv.int 1)).bind fun t8 =>
 (AN x1 (Dv.int 2)).bind fun t9 =>
 (AN x2 (Dv.int 2)).bind fun t10 =>
 (OV t8 t9 t10).bind fun t11 =>
 (EX (GD x1 x3) t11 ()).bind fun l45=>l45.el (fun c44 =>
 some true) fun d46 r47=>some d46
theorem WH (x0 x1 x2 x3:Dv) (S:List Ob):Bo 10 [] LJ [mk false x0,mk false x1,mk false x2,mk false x3] S=(As (BE Dz) [x0,x1,x2,x3]).map fun r=>(mk true r.1,r.2.map (mk true),S):=by
 rw [RU,Cn true 10 [] LJ _ S [fm x0,fm x1,fm x2,fm x3,none,none,none,none,none,none] rfl];simp only [↓sk,ss,LJ,Dz,EN,FR,Hj,Kc,Rq,Nat.reduceAdd,Nat.reduceLeDiff]
def Hm:Ev Dt:=
    Ab 3
def HJ:Ev Bool:=
    FE (.ev (CB (ups [false,false,false,false] true (As (BE Dz))) 4 [.rf 0,.rf 1,.rf 2,.rf 3]))
def Gc:Es:=
    Ae [0,1,2,3] (BG (Cw (Az (AW (ups [false,false] true (Bx HV)) 2 [] [.ev (AB Af [.rf 2,.ev (Aa (.int 0))]),.ev (AB Af [.rf 1,.ev (Aa (.int 0))])])) [3] (Aj 3) HJ Hm))
def DZ (x0 x1 x2:Dv) (it:Dv):Option (Option Dv):=
 (Dz x0 x1 x2 it).bind fun r5 =>
 if r5=true then some (some it) else some none
def MY (x0 x1 x2:Dv) (its:List Dv) (S:List Ob):=Ul (js:=[3]) (tg:=(Aj 3)) (cn:=HJ) (f:=Hm) (m0:=⟨[fm x0,fm x1,fm x2,none],S⟩) (g:=(DZ x0 x1 x2)) (fun it=>by
 simp only [↓sk,ss,Hm,HJ,DZ,Nat.reduceAdd,Nat.reduceLeDiff]) its
def CN (x0 x1 x2:Dv):Option Dv:=
 (AN x2 (Dv.int 0)).bind fun t1 =>
 (AN x1 (Dv.int 0)).bind fun t2 =>
 (HV t1 t2).bind fun r3 =>
 (Ak r3).bind fun t4 =>
 (Gu t4 (NR (DZ x0 x1 x2) t4)).bind fun p6 =>
 some (Dv.lst p6)
theorem QC (x0 x1 x2:Dv) (S:List Ob):Bo 4 [] Gc [mk false x0,mk false x1,mk false x2] S=(Ck CN [x0,x1,x2]).map fun r=>(mk true r.1,r.2.map (mk true),S):=by
 rw [Yv,Cn true 4 [] Gc _ S [fm x0,fm x1,fm x2,none] rfl];simp only [↓sk,ss,Gc,CN,MY,Nat.reduceAdd,Nat.reduceLeDiff]
def GQ:Ev Dt:=
    OL (AB pz [.rf 1,.ev (AB HA [.rf 3])]) (AB YA [.ev (AB Af [.rf 3,.rf 1]),.rf 2])
def Gk (QTableLeads:Fn):Ev Dt:=
    CB QTableLeads 4 [.ev (AB cA [.rf 0,.ev (Aa (.int 1))]),.ev (AB Af [.rf 1,.rf 4]),.ev (AB Af [.rf 2,.rf 5]),.rf 3]
def FN (QTableLeads:Fn):Es:=
    Al (DL (Ca (AB YA [.rf 0,.ev (Aa (.int 0))])) (Ae [0,1,2,3,4,5] (BG (AO (Gg (GQ))))) (BX))
    (Ae [0,1,2,3,4,5] (BG (AO (Gg (AB PJ [.ev (BO (IF (Ab 3)) [4,5] (Kv (AM (Aj 4) (AM (Aj 5) Bd))) (Gk QTableLeads))])))))
def Cz (x1 x2 x3:Dv):Option Bool:=
 (Dx x3).bind fun t2 =>
 (qL x1 t2).bind fun b3 =>
 if b3=true then some true else (AN x3 x1).bind fun t4 =>
 (WW t4 x2).bind fun b5 =>
 some b5
theorem Gv (x0 x1 x2 x3:Dv) (S:List Ob):GQ ⟨[fm x0,fm x1,fm x2,fm x3,none,none],S⟩=(Cz x1 x2 x3).map fun c=>(mk true (Dv.bl c),⟨[fm x0,fm x1,fm x2,fm x3,none,none],S⟩):=by
 simp only [↓sk,ss,GQ,Cz,Nat.reduceAdd,Nat.reduceLeDiff]
 all_goals simp only [Dh]
def Bv (qTableLeads:Dv->Dv->Dv->Dv->Option Bool) (x0 x1 x2 x3:Dv) (it:Dv):Option Dv:=
 (SD it).bind fun p8 =>
 (SE x0 (Dv.int 1)).bind fun t9 =>
 (AN x1 p8.1).bind fun t10 =>
 (AN x2 p8.2).bind fun t11 =>
 (qTableLeads t9 t10 t11 x3).bind fun r12 =>
 some (Dv.bl r12)
def Ko (qTableLeads:Dv->Dv->Dv->Dv->Option Bool) (x0 x1 x2 x3:Dv) (its:List Dv) (S:List Ob):=DN (js:=[4,5]) (tg:=(Kv (AM (Aj 4) (AM (Aj 5) Bd)))) (f:=(Gk (ups [false,false,false,false] false (As (BE qTableLeads))))) (m0:=⟨[fm x0,fm x1,fm x2,fm x3,none,none],S⟩) (g:=(Bv qTableLeads x0 x1 x2 x3)) (fun it=>by
 simp only [↓sk,ss,Gk,Bv,Gv,Nat.reduceAdd,Nat.reduceLeDiff]) its
def AZ:Nat->Dv->Dv->Dv->Dv->Option Bool
 | 0,_,_,_,_=>none
 | n+1,x0,x1,x2,x3=>(WW x0 (Dv.int 0)).bind fun b1 =>
 if b1=true then (Cz x1 x2 x3).bind fun c6 =>
 some c6 else (QY x3).bind fun t7 =>
 (Gu t7 (Cv (Bv (AZ n) x0 x1 x2 x3) t7)).bind fun p13 =>
 (Kq (Dv.lst p13)).bind fun b14 =>
 some b14
theorem NU (n:Nat) (x0 x1 x2 x3:Dv) (S:List Ob):Bo 6 [] (FN (ups [false,false,false,false] false (As (BE (AZ n))))) [mk false x0,mk false x1,mk false x2,mk false x3] S=(As (BE (AZ (n+1))) [x0,x1,x2,x3]).map fun r=>(mk false r.1,r.2.map (mk true),S):=by
 rw [RU,Cn false 6 [] (FN (ups [false,false,false,false] false (As (BE (AZ n))))) _ S [fm x0,fm x1,fm x2,fm x3,none,none] rfl];simp only [↓sk,ss,FN,AZ,Gv,Ko,Nat.reduceAdd,Nat.reduceLeDiff]
def GT:Ev Bool:=
    IU (Ca (AB kI [.rf 4,.ev (AB HA [.rf 3])])) (Ca (AB cB [.ev (AB Af [.rf 3,.rf 4]),.rf 5]))
def Gn:Es:=
    Ae [4,5] (DL (GT) (Ae [0,1,2,3,4,5,6] (BG (Aa (.bl false)))) (BX))
def Gm:Es:=
    Ae [4,5,6] (DL (GJ (FE (.ev (CB (ups [false,false,false,false] false (As (BE (AZ 200)))) 4 [.ev (AB Af [.rf 6,.ev (Aa (.int 1))]),.rf 4,.rf 5,.rf 3])))) (Ae [0,1,2,3,4,5,6] (BG (Aa (.bl false)))) (BX))
def FO:Es:=
    Al (CY (Ae [4,5] (Iy (AB Af [.rf 1,.ev (Aa (.int 1))]) (AB Af [.rf 2,.ev (Aa (.int 1))]))) (Kv (AM (Aj 4) (AM (Aj 5) Bd))) Gn)
    (Al (CY (Ae [4,5,6] (Iw (AB Af [.rf 0,.ev (Aa (.int 1))]) (AB Af [.rf 1,.ev (Aa (.int 2))]) (AB Af [.rf 2,.ev (Aa (.int 2))]))) (Kv (AM (Aj 6) (AM (Aj 4) (AM (Aj 5) Bd)))) Gm)
    (Ae [0,1,2,3,4,5,6] (BG (Aa (.bl true)))))
def DA (x3 x4 x5:Dv):Option Bool:=
 (Dx x3).bind fun t5 =>
 (kO x4 t5).bind fun b6 =>
 if b6=true then (AN x3 x4).bind fun t7 =>
 (WU t7 x5).bind fun b8 =>
 some b8 else some false
theorem EY (x0 x1 x2 x3 x4 x5:Dv) (S:List Ob):GT ⟨[fm x0,fm x1,fm x2,fm x3,fm x4,fm x5,none],S⟩=(DA x3 x4 x5).map fun c=>(c,⟨[fm x0,fm x1,fm x2,fm x3,fm x4,fm x5,none],S⟩):=by
 simp only [↓sk,ss,GT,DA,Nat.reduceAdd,Nat.reduceLeDiff]
 all_goals simp only [Dh]
def DF (x3:Dv) (it:Dv) (c:Unit):Option (Lp Bool Unit Unit):=
 (SD it).bind fun p4 =>
 (DA x3 p4.1 p4.2).bind fun c9 =>
 if c9=true then some (Lp.rt false ()) else some (Lp.go ())
def Gx (x0 x1 x2 x3:Dv) (its:List Dv) (S:List Ob):=Ha (tg:=(Kv (AM (Aj 4) (AM (Aj 5) Bd)))) (b:=Gn) (w:=Dv.bl) (E:=fun c:Unit=>⟨[fm x0,fm x1,fm x2,fm x3,none,none,none],S⟩) (Er:=fun c:Unit=>⟨[none,none,none,none,none,none,none],S⟩) (μ:=true) (g:=(DF x3)) (fun it c=>by
 simp only [↓sk,ss,Gn,DF,EY,Nat.reduceAdd,Nat.reduceLeDiff]) its ()
def DE (x3:Dv) (it:Dv) (c:Unit):Option (Lp Bool Unit Unit):=
 (gL it).bind fun p18 =>
 (AN p18.1 (Dv.int 1)).bind fun t19 =>
 (AZ 200 t19 p18.2.1 p18.2.2 x3).bind fun r20 =>
 if (!r20)=true then some (Lp.rt false ()) else some (Lp.go ())
def Kp (x0 x1 x2 x3:Dv) (its:List Dv) (S:List Ob):=Ha (tg:=(Kv (AM (Aj 6) (AM (Aj 4) (AM (Aj 5) Bd))))) (b:=Gm) (w:=Dv.bl) (E:=fun c:Unit=>⟨[fm x0,fm x1,fm x2,fm x3,none,none,none],S⟩) (Er:=fun c:Unit=>⟨[none,none,none,none,none,none,none],S⟩) (μ:=true) (g:=(DE x3)) (fun it c=>by
 simp only [↓sk,ss,Gm,DE,EY,Gx,Nat.reduceAdd,Nat.reduceLeDiff]) its ()
def Bh (x0 x1 x2 x3:Dv):Option Bool:=
 (AN x1 (Dv.int 1)).bind fun t1 =>
 (AN x2 (Dv.int 1)).bind fun t2 =>
 (OW t1 t2).bind fun t3 =>
 (EX (DF x3) t3 ()).bind fun l11=>l11.el (fun c10 =>
 (AN x0 (Dv.int 1)).bind fun t14 =>
 (AN x1 (Dv.int 2)).bind fun t15 =>
 (AN x2 (Dv.int 2)).bind fun t16 =>
 (OV t14 t15 t16).bind fun t17 =>
 (EX (DE x3) t17 ()).bind fun l22=>l22.el (fun c21 =>
 some true) fun d23 r24=>some d23) fun d12 r13=>some d12
theorem NV (x0 x1 x2 x3:Dv) (S:List Ob):Bo 7 [] FO [mk false x0,mk false x1,mk false x2,mk false x3] S=(As (BE Bh) [x0,x1,x2,x3]).map fun r=>(mk true r.1,r.2.map (mk true),S):=by
 rw [RU,Cn true 7 [] FO _ S [fm x0,fm x1,fm x2,fm x3,none,none,none] rfl];simp only [↓sk,ss,FO,Bh,EY,Gx,Kp,Nat.reduceAdd,Nat.reduceLeDiff]
def LX:Ev Dt:=
    Gh Sj kI (.ev (Aa (.int 0))) (.rf 4) (.ev (AB Af [.rf 2,.ev (Aa (.int 0))]))
def Mr:Ev Dt:=
    AO (LX)
def Lf:Ev Bool:=
    Kl (Ca (AB cB [.ev (AB HA [.rf 3]),.ev (AB Af [.rf 1,.ev (Aa (.int 0))])])) (GJ (FE (.ev (AB PJ [.ev (BO (Az (Ab 3)) [4] (Aj 4) Mr)]))))
def LL:Es:=
    Al (DL (Lf) (Ae [0,1,2,3,4] (BG (Aa (.bl false)))) (BX))
    (Ae [0,1,2,3,4] (BG (Gg (CB (ups [false,false,false,false] true (As (BE Bh))) 4 [.rf 0,.rf 1,.rf 2,.rf 3]))))
def Fm (x2 x4:Dv):Option Bool:=
 (dC (Dv.int 0) x4).bind fun b5 =>
 if b5=true then (AN x2 (Dv.int 0)).bind fun t6 =>
 (kO x4 t6).bind fun b7 =>
 some b7 else some false
theorem Hd (x0 x1 x2 x3 x4:Dv) (S:List Ob):LX ⟨[fm x0,fm x1,fm x2,fm x3,fm x4],S⟩=(Fm x2 x4).map fun c=>(mk true (Dv.bl c),⟨[fm x0,fm x1,fm x2,fm x3,fm x4],S⟩):=by
 simp only [↓sk,ss,LX,Fm,Nat.reduceAdd,Nat.reduceLeDiff]
 all_goals simp only [Dh]
def GA (x2:Dv) (it:Dv):Option Dv:=
 (Fm x2 it).bind fun c8 =>
 some (Dv.bl c8)
def Kb (x0 x1 x2 x3:Dv) (its:List Dv) (S:List Ob):=DN (js:=[4]) (tg:=(Aj 4)) (f:=Mr) (m0:=⟨[fm x0,fm x1,fm x2,fm x3,none],S⟩) (g:=(GA x2)) (fun it=>by
 simp only [↓sk,ss,Mr,GA,Hd,Nat.reduceAdd,Nat.reduceLeDiff]) its
def Dm (x1 x2 x3:Dv):Option Bool:=
 (Dx x3).bind fun t1 =>
 (AN x1 (Dv.int 0)).bind fun t2 =>
 (WU t1 t2).bind fun b3 =>
 if b3=true then some true else (Ak x3).bind fun t4 =>
 (Gu t4 (Cv (GA x2) t4)).bind fun p9 =>
 (Kq (Dv.lst p9)).bind fun b10 =>
 some (!b10)
theorem Rk (x0 x1 x2 x3:Dv) (S:List Ob):Lf ⟨[fm x0,fm x1,fm x2,fm x3,none],S⟩=(Dm x1 x2 x3).map fun c=>(c,⟨[fm x0,fm x1,fm x2,fm x3,none],S⟩):=by
 simp only [↓sk,ss,Lf,Dm,Hd,Kb,Nat.reduceAdd,Nat.reduceLeDiff]
 all_goals simp only [Dh]
def EA (x0 x1 x2 x3:Dv):Option Bool:=
 (Dm x1 x2 x3).bind fun c11 =>
 if c11=true then some false else (Bh x0 x1 x2 x3).bind fun r12 =>
 some r12
theorem WJ (x0 x1 x2 x3:Dv) (S:List Ob):Bo 5 [] LL [mk false x0,mk false x1,mk false x2,mk false x3] S=(As (BE EA) [x0,x1,x2,x3]).map fun r=>(mk true r.1,r.2.map (mk true),S):=by
 rw [RU,Cn true 5 [] LL _ S [fm x0,fm x1,fm x2,fm x3,none] rfl];simp only [↓sk,ss,LL,EA,Hd,Kb,Rk,Nat.reduceAdd,Nat.reduceLeDiff]
def Fh:Ev Dt:=
    AO (AB DV [.rf 3,.ev (BI .tup [.ev (Ab 4)])])
def Fi:Es:=
    Ae [3] (DM (EJ 2 GG [.ev (BO (Bf (.rf 1)) [4] (Aj 4) Fh)]))
def Eh:Es:=
    Al (Ad (BI (.lst true) []) (Aj 2))
    (Al (CY (Ae [3] (Az (Ab 0))) (Aj 3) Fi)
    (Ae [0,1,2,3,4] (BG (Hb 2))))
def Cc (x3:Dv) (it:Dv):Option Dv:=
 (Bm x3 (Dv.tup [it])).bind fun t3 =>
 some t3
def GL (x0 x1 x2 x3:Dv) (its:List Dv) (S:List Ob):=DN (js:=[4]) (tg:=(Aj 4)) (f:=Fh) (m0:=⟨[fm x0,fm x1,tm x2,fm x3,none],S⟩) (g:=(Cc x3)) (fun it=>by
 simp only [↓sk,ss,Fh,Cc,Nat.reduceAdd,Nat.reduceLeDiff]) its
def Ce (x1:Dv) (it:Dv) (c:Dv):Option Dv:=
 (BY x1).bind fun t2 =>
 (Gu t2 (Cv (Cc it) t2)).bind fun p4 =>
 (IH c (Dv.lst p4)).bind fun t5 =>
 some t5
def KH (x0 x1 x2:Dv) (its:List Dv) (S:List Ob):=HZ (tg:=(Aj 3)) (b:=Fi) (E:=fun c:Dv=>⟨[fm x0,fm x1,tm c,none,none],S⟩) (g:=(Ce x1)) (fun it c=>by
 simp only [↓sk,ss,Fi,Ce,GL,Nat.reduceAdd,Nat.reduceLeDiff]) its x2
def Br (x0 x1:Dv):Option Dv:=
 (Ak x0).bind fun t1 =>
 (Cm (Ce x1) t1 (Dv.lst [])).bind fun c6 =>
 some c6
theorem Mc (x0 x1:Dv) (S:List Ob):Bo 5 [] Eh [mk false x0,mk false x1] S=(Bx Br [x0,x1]).map fun r=>(mk true r.1,r.2.map (mk true),S):=by
 rw [UW,Cn true 5 [] Eh _ S [fm x0,fm x1,none,none,none] rfl];simp only [↓sk,ss,Eh,Br,GL,KH,Nat.reduceAdd,Nat.reduceLeDiff]
def QJ:Ev Dt:=
    Ab 5
def Oa:Ev Bool:=
    FE (.ev (CB (ups [false,false,false,false] true (As (BE Bh))) 4 [.rf 0,.rf 1,.rf 2,.rf 5]))
def QM:Es:=
    Ae [4] (Ad (Cw (Az (AW (ups [false,false] true (Bx Br)) 2 [] [.ev (Ab 3),.ev (AB Af [.rf 2,.ev (Aa (.int 0))])])) [5] (Aj 5) Oa QJ) (Aj 3))
def Pf:Es:=
    Al (Ad (BI (.lst true) [.ev (AO (BI .tup []))]) (Aj 3))
    (Al (CY (Ae [4] (Bf (.ev (AB Af [.rf 1,.ev (Aa (.int 0))])))) (Aj 4) QM)
    (Ae [0,1,2,3,4,5] (BG (Hb 3))))
def HM (x0 x1 x2:Dv) (it:Dv):Option (Option Dv):=
 (Bh x0 x1 x2 it).bind fun r6 =>
 if r6=true then some (some it) else some none
def MW (x0 x1 x2 x3 x4:Dv) (its:List Dv) (S:List Ob):=Ul (js:=[5]) (tg:=(Aj 5)) (cn:=Oa) (f:=QJ) (m0:=⟨[fm x0,fm x1,fm x2,fm x3,fm x4,none],S⟩) (g:=(HM x0 x1 x2)) (fun it=>by
 simp only [↓sk,ss,QJ,Oa,HM,Nat.reduceAdd,Nat.reduceLeDiff]) its
def HR (x0 x1 x2:Dv) (it:Dv) (c:Dv):Option Dv:=
 (AN x2 (Dv.int 0)).bind fun t3 =>
 (Br c t3).bind fun r4 =>
 (Ak r4).bind fun t5 =>
 (Gu t5 (NR (HM x0 x1 x2) t5)).bind fun p7 =>
 some (Dv.lst p7)
def TK (x0 x1 x2 x3:Dv) (its:List Dv) (S:List Ob):=HZ (tg:=(Aj 4)) (b:=QM) (E:=fun c:Dv=>⟨[fm x0,fm x1,fm x2,tm c,none,none],S⟩) (g:=(HR x0 x1 x2)) (fun it c=>by
 simp only [↓sk,ss,QM,HR,MW,Nat.reduceAdd,Nat.reduceLeDiff]) its x3
def GW (x0 x1 x2:Dv):Option Dv:=
 (AN x1 (Dv.int 0)).bind fun t1 =>
 (BY t1).bind fun t2 =>
 (Cm (HR x0 x1 x2) t2 (Dv.lst [(Dv.tup [])])).bind fun c8 =>
 some c8
theorem Zk (x0 x1 x2:Dv) (S:List Ob):Bo 6 [] Pf [mk false x0,mk false x1,mk false x2] S=(Ck GW [x0,x1,x2]).map fun r=>(mk true r.1,r.2.map (mk true),S):=by
 rw [Yv,Cn true 6 [] Pf _ S [fm x0,fm x1,fm x2,none,none,none] rfl];simp only [↓sk,ss,Pf,GW,MW,TK,Nat.reduceAdd,Nat.reduceLeDiff]
def JB:Ev Dt:=
    AO (AW (ups [true,false] true (AR AL)) 2 [0] [.rf 0,.ev (AB Af [.rf 2,.ev (Aa (.int 0))])])
def Ih:Ev Bool:=
    IU (Ca (AB lg [.ev (AB HA [.rf 3]),.ev (Aa (.int 0))])) (Ca (AB YA [.ev (AW (ups [true,false] true (AR AL)) 2 [0] [.rf 0,.ev (AO (Aa (.int 2)))]),.ev (Aa (.int 0))]))
def Iv:Es:=
    Ae [] (DL (Ih) (Ad (AB KS [.ev (AB Af [.rf 3,.ev (AW (ups [true,false] true (AR AL)) 2 [0] [.rf 0,.ev (AO (AB HA [.rf 3]))])])]) (Aj 6)) (BX))
def JH:Es:=
    Ae [5,6] (Al (Ad (BO (Bf (.ev (AB Af [.rf 1,.ev (Aa (.int 0))]))) [7] (Aj 7) JB) (Aj 6))
    (Al (Iv)
    (Al (DK 6 (AO (AB cA [.ev (AW (ups [true,false] true (AR AL)) 2 [0] [.rf 0,.ev (AO (AB DV [.ev (AB Af [.rf 2,.ev (Aa (.int 0))]),.ev (Aa (.int 2))]))]),.ev (Aa (.int 1))])) (.ev (AW (ups [true,false] true (AR AL)) 2 [0] [.rf 0,.ev (AB Af [.rf 1,.ev (Aa (.int 0))])])))
    (DM (EJ 4 CI [.ev (AO (AB Bp [.rf 6]))])))))
def IA:Es:=
    Al (Ad (BI (.lst true) [.ev (AO (BI .tup [])),.ev (AO (AB Lz [.ev (BI .tup [.ev (AO (Aa (.int 0)))]),.ev (AB DV [.ev (AB Af [.rf 1,.ev (Aa (.int 0))]),.ev (Aa (.int 1))])])),.ev (AO (AB Lz [.ev (BI .tup [.ev (AB Af [.rf 2,.ev (Aa (.int 0))])]),.ev (AB Af [.rf 1,.ev (Aa (.int 0))])])),.ev (AO (AB Lz [.ev (BI .tup [.ev (AO (AB Qy [.ev (Aa (.int 1))]))]),.ev (AB Af [.rf 1,.ev (Aa (.int 0))])]))]) (Aj 4))
    (Al (CY (Ae [5,6] (Bf (.ev (Aa (.int 3))))) (Aj 5) JH)
    (Ae [1,2,3,4,5,6,7] (BG (Hb 4))))
def DR (x2:Dv) (it:Dv) (c:Dv):Option (Dv×Dv):=
 (AN x2 (Dv.int 0)).bind fun t13 =>
 (AL c t13).bind fun r14 =>
 some (r14.1,r14.2)
theorem EC (x0 x1 x2 x3 x4 x5:Dv) (its:List Dv) (S:List Ob):FH [7] (Aj 7) JB (Ar its) ⟨[tm x0,fm x1,fm x2,fm x3,tm x4,fm x5,none,none],S⟩=(CM (DR x2) its x0).map fun p=>(Ar p.1,⟨[tm p.2,fm x1,fm x2,fm x3,tm x4,fm x5,none,none],S⟩):=Gi (E:=fun c:Dv=>⟨[tm c,fm x1,fm x2,fm x3,tm x4,fm x5,none,none],S⟩) (fun it c=>by
 simp only [↓sk,ss,JB,DR,Nat.reduceAdd,Nat.reduceLeDiff]) its x0 _ rfl
def EF (x0 x3:Dv):Option (Bool×Dv):=
 (Dx x3).bind fun t16 =>
 (mi t16 (Dv.int 0)).bind fun b17 =>
 if b17=true then (AL x0 (Dv.int 2)).bind fun r18 =>
 (WW r18.1 (Dv.int 0)).bind fun b19 =>
 some (b19,r18.2) else some (false,x0)
theorem Fc (x0 x1 x2 x3 x4 x5 x6:Dv) (S:List Ob):Ih ⟨[tm x0,fm x1,fm x2,fm x3,tm x4,fm x5,tm x6,none],S⟩=(EF x0 x3).map fun c=>(c.1,⟨[tm c.2,fm x1,fm x2,fm x3,tm x4,fm x5,tm x6,none],S⟩):=by
 simp only [↓sk,ss,Ih,EF,EC,Nat.reduceAdd,Nat.reduceLeDiff]
 all_goals simp only [Dh]
def DQ (x0 x3 x6:Dv):Option (Dv×Dv):=
 (EF x0 x3).bind fun c20 =>
 if c20.1=true then (Dx x3).bind fun t21 =>
 (AL c20.2 t21).bind fun r22 =>
 (AN x3 r22.1).bind fun t23 =>
 (IZ t23).bind fun t24 =>
 some (r22.2,t24) else some (c20.2,x6)
theorem IV (x0 x1 x2 x3 x4 x5 x6:Dv) (S:List Ob):Iv ⟨[tm x0,fm x1,fm x2,fm x3,tm x4,fm x5,tm x6,none],S⟩=(DQ x0 x3 x6).map fun c=>(.nx,⟨[tm c.1,fm x1,fm x2,fm x3,tm x4,fm x5,tm c.2,none],S⟩):=by
 simp only [↓sk,ss,Iv,DQ,EC,Fc,Nat.reduceAdd,Nat.reduceLeDiff]
def Cf (x1 x2 x3:Dv) (it:Dv) (c:(Dv×Dv)):Option (Dv×Dv):=
 (AN x1 (Dv.int 0)).bind fun t11 =>
 (BY t11).bind fun t12 =>
 (Gu t12 (CM (DR x2) t12 c.1)).bind fun p15 =>
 (DQ p15.2 x3 (Dv.lst p15.1)).bind fun c25 =>
 (AN x2 (Dv.int 0)).bind fun t26 =>
 (Bm t26 (Dv.int 2)).bind fun t27 =>
 (AL c25.1 t27).bind fun r28 =>
 (SE r28.1 (Dv.int 1)).bind fun t29 =>
 (AN x1 (Dv.int 0)).bind fun t30 =>
 (AL r28.2 t30).bind fun r31 =>
 (CL c25.2 r31.1 t29).bind fun t32 =>
 (Av t32).bind fun t33 =>
 (BP c.2 t33).bind fun t34 =>
 some (r31.2,t34)
theorem NT (x0 x1 x2 x3 x4:Dv) (its:List Dv) (S:List Ob):forL (Aj 5) JH (Ar its) ⟨[tm x0,fm x1,fm x2,fm x3,tm x4,none,none,none],S⟩=(Cm (Cf x1 x2 x3) its (x0,x4)).map fun c=>(.nx,⟨[tm c.1,fm x1,fm x2,fm x3,tm c.2,none,none,none],S⟩):=HZ (E:=fun c:(Dv×Dv)=>⟨[tm c.1,fm x1,fm x2,fm x3,tm c.2,none,none,none],S⟩) (fun it c=>by
 simp only [↓sk,ss,JH,Cf,EC,Fc,IV,Nat.reduceAdd,Nat.reduceLeDiff]) its (x0,x4)
def CS (x0 x1 x2 x3:Dv):Option (Dv×Dv):=
 (AN x1 (Dv.int 0)).bind fun t1 =>
 (Bm t1 (Dv.int 1)).bind fun t2 =>
 (IY (Dv.tup [(Dv.int 0)]) t2).bind fun t3 =>
 (AN x2 (Dv.int 0)).bind fun t4 =>
 (AN x1 (Dv.int 0)).bind fun t5 =>
 (IY (Dv.tup [t4]) t5).bind fun t6 =>
 (QX (Dv.int 1)).bind fun t7 =>
 (AN x1 (Dv.int 0)).bind fun t8 =>
 (IY (Dv.tup [t7]) t8).bind fun t9 =>
 (BY (Dv.int 3)).bind fun t10 =>
 (Cm (Cf x1 x2 x3) t10 (x0,(Dv.lst [(Dv.tup []),t3,t6,t9]))).bind fun c35 =>
 some (c35.2,c35.1)
theorem Rr (x0 x1 x2 x3:Dv) (S:List Ob):Bo 8 [0] IA [mk true x0,mk false x1,mk false x2,mk false x3] S=(HY CS [x0,x1,x2,x3]).map fun r=>(mk true r.1,r.2.map (mk true),S):=by
 rw [lz,Cn true 8 [0] IA _ S [tm x0,fm x1,fm x2,fm x3,none,none,none,none] rfl];simp only [↓sk,ss,IA,CS,EC,Fc,IV,NT,Nat.reduceAdd,Nat.reduceLeDiff]
def SK:Ev Dt:=
    Gh Sj kI (.ev (Aa (.int 0))) (.rf 4) (.ev (AB Af [.rf 2,.ev (Aa (.int 0))]))
def TZ:Ev Dt:=
    AO (SK)
def SX:Ev Bool:=
    Kl (Ca (AB cB [.ev (AB HA [.rf 3]),.ev (AB Af [.rf 1,.ev (Aa (.int 0))])])) (GJ (FE (.ev (AB PJ [.ev (BO (Az (Ab 3)) [4] (Aj 4) TZ)]))))
def UT:Es:=
    Al (DL (SX) (Ae [0,1,2,3,4] (BG (Aa (.bl false)))) (BX))
    (Ae [0,1,2,3,4] (BG (Gg (CB (ups [false,false,false,false] true (As (BE Dz))) 4 [.rf 0,.rf 1,.rf 2,.rf 3]))))
def Oj (x2 x4:Dv):Option Bool:=
 (dC (Dv.int 0) x4).bind fun b5 =>
 if b5=true then (AN x2 (Dv.int 0)).bind fun t6 =>
 (kO x4 t6).bind fun b7 =>
 some b7 else some false
theorem KG (x0 x1 x2 x3 x4:Dv) (S:List Ob):SK ⟨[fm x0,fm x1,fm x2,fm x3,fm x4],S⟩=(Oj x2 x4).map fun c=>(mk true (Dv.bl c),⟨[fm x0,fm x1,fm x2,fm x3,fm x4],S⟩):=by
 simp only [↓sk,ss,SK,Oj,Nat.reduceAdd,Nat.reduceLeDiff]
 all_goals simp only [Dh]
def Ot (x2:Dv) (it:Dv):Option Dv:=
 (Oj x2 it).bind fun c8 =>
 some (Dv.bl c8)
def OP (x0 x1 x2 x3:Dv) (its:List Dv) (S:List Ob):=DN (js:=[4]) (tg:=(Aj 4)) (f:=TZ) (m0:=⟨[fm x0,fm x1,fm x2,fm x3,none],S⟩) (g:=(Ot x2)) (fun it=>by
 simp only [↓sk,ss,TZ,Ot,KG,Nat.reduceAdd,Nat.reduceLeDiff]) its
def JQ (x1 x2 x3:Dv):Option Bool:=
 (Dx x3).bind fun t1 =>
 (AN x1 (Dv.int 0)).bind fun t2 =>
 (WU t1 t2).bind fun b3 =>
 if b3=true then some true else (Ak x3).bind fun t4 =>
 (Gu t4 (Cv (Ot x2) t4)).bind fun p9 =>
 (Kq (Dv.lst p9)).bind fun b10 =>
 some (!b10)
theorem WB (x0 x1 x2 x3:Dv) (S:List Ob):SX ⟨[fm x0,fm x1,fm x2,fm x3,none],S⟩=(JQ x1 x2 x3).map fun c=>(c,⟨[fm x0,fm x1,fm x2,fm x3,none],S⟩):=by
 simp only [↓sk,ss,SX,JQ,KG,OP,Nat.reduceAdd,Nat.reduceLeDiff]
 all_goals simp only [Dh]
def IQ (x0 x1 x2 x3:Dv):Option Bool:=
 (JQ x1 x2 x3).bind fun c11 =>
 if c11=true then some false else (Dz x0 x1 x2 x3).bind fun r12 =>
 some r12
theorem cu (x0 x1 x2 x3:Dv) (S:List Ob):Bo 5 [] UT [mk false x0,mk false x1,mk false x2,mk false x3] S=(As (BE IQ) [x0,x1,x2,x3]).map fun r=>(mk true r.1,r.2.map (mk true),S):=by
 rw [RU,Cn true 5 [] UT _ S [fm x0,fm x1,fm x2,fm x3,none] rfl];simp only [↓sk,ss,UT,IQ,KG,OP,WB,Nat.reduceAdd,Nat.reduceLeDiff]
def LW:Ev Dt:=
    KF (AB Ki [.rf 2,.ev (Aa (.ty "int"))]) (KD (AB Ki [.rf 2,.ev (Aa (.ty "bool"))]))
def Mm:Ev Dt:=
    AO (LW)
def Lc:Ev Bool:=
    Kl (GJ (FE (.ev (AB Ki [.rf 1,.ev (Aa (.ty "tuple"))])))) (GJ (FE (.ev (AB PJ [.ev (BO (Az (Ab 1)) [2] (Aj 2) Mm)]))))
def Mx:Es:=
    Ae [1] (DL (Lc) (Ae [0,1,2] (BG (Aa (.bl false)))) (BX))
def LG:Es:=
    Al (CY (Ae [1] (Az (Ab 0))) (Aj 1) Mx)
    (Ae [0,1,2] (BG (Aa (.bl true))))
def Jp (x2:Dv):Option Bool:=
 (Jl x2 (Dv.ty "int")).bind fun b4 =>
 if b4=true then (Jl x2 (Dv.ty "bool")).bind fun b5 =>
 some (!b5) else some false
theorem FQ (x0 x1 x2:Dv) (S:List Ob):LW ⟨[fm x0,fm x1,fm x2],S⟩=(Jp x2).map fun c=>(mk true (Dv.bl c),⟨[fm x0,fm x1,fm x2],S⟩):=by
 simp only [↓sk,ss,LW,Jp,Nat.reduceAdd,Nat.reduceLeDiff]
 all_goals simp only [Dh]
def Hv (it:Dv):Option Dv:=
 (Jp it).bind fun c6 =>
 some (Dv.bl c6)
def Hh (x0 x1:Dv) (its:List Dv) (S:List Ob):=DN (js:=[2]) (tg:=(Aj 2)) (f:=Mm) (m0:=⟨[fm x0,fm x1,none],S⟩) (g:=Hv) (fun it=>by
 simp only [↓sk,ss,Mm,Hv,FQ,Nat.reduceAdd,Nat.reduceLeDiff]) its
def Fo (x1:Dv):Option Bool:=
 (Jl x1 (Dv.ty "tuple")).bind fun b2 =>
 if (!b2)=true then some true else (Ak x1).bind fun t3 =>
 (Gu t3 (Cv Hv t3)).bind fun p7 =>
 (Kq (Dv.lst p7)).bind fun b8 =>
 some (!b8)
theorem KW (x0 x1:Dv) (S:List Ob):Lc ⟨[fm x0,fm x1,none],S⟩=(Fo x1).map fun c=>(c,⟨[fm x0,fm x1,none],S⟩):=by
 simp only [↓sk,ss,Lc,Fo,FQ,Hh,Nat.reduceAdd,Nat.reduceLeDiff]
 all_goals simp only [Dh]
def GB (it:Dv) (c:Unit):Option (Lp Bool Unit Unit):=
 (Fo it).bind fun c9 =>
 if c9=true then some (Lp.rt false ()) else some (Lp.go ())
def Rp (x0:Dv) (its:List Dv) (S:List Ob):=Ha (tg:=(Aj 1)) (b:=Mx) (w:=Dv.bl) (E:=fun c:Unit=>⟨[fm x0,none,none],S⟩) (Er:=fun c:Unit=>⟨[none,none,none],S⟩) (μ:=true) (g:=GB) (fun it c=>by
 simp only [↓sk,ss,Mx,GB,FQ,Hh,KW,Nat.reduceAdd,Nat.reduceLeDiff]) its ()
def FK (x0:Dv):Option Bool:=
 (Ak x0).bind fun t1 =>
 (EX GB t1 ()).bind fun l11=>l11.el (fun c10 =>
 some true) fun d12 r13=>some d12
theorem WD (x0:Dv) (S:List Ob):Bo 3 [] LG [mk false x0] S=(FA (MH FK) [x0]).map fun r=>(mk true r.1,r.2.map (mk true),S):=by
 rw [fH,Cn true 3 [] LG _ S [fm x0,none,none] rfl];simp only [↓sk,ss,LG,FK,FQ,Hh,KW,Rp,Nat.reduceAdd,Nat.reduceLeDiff]
def Wy:Ev Bool:=
    Kl (GJ (FE (.ev (AB Ki [.rf 10,.ev (Aa (.ty "bool"))])))) (Ca (AB cB [.rf 10,.ev (CB (ups [false,false,false,false] true (As (BE IQ))) 4 [.rf 3,.rf 4,.rf 5,.rf 7])]))
def aQ:Es:=
    Ae [7,10] (Al (Ad (CB (ups [false,false,false,false] true (As (BE EA))) 4 [.rf 3,.rf 4,.rf 5,.rf 7]) (Aj 10))
    (DL (Wy) (Ae [0,1,2,3,4,5,6,7,8,9,10] (BG (Aa (.bl false)))) (BX)))
def ZV:Es:=
    Ae [3,4,5,6,7,10] (DL (Ca (AB YA [.ev (AW (ups [true,false] true (AR AL)) 2 [0] [.rf 1,.ev (AO (Aa (.int 4)))]),.ev (Aa (.int 0))])) (Al (Ad (AO (AW (ups [true] true (Gd Dd)) 1 [0] [.rf 1])) (Aj 3))
    (Al (Ad (AW (ups [true,false] true (AR Ee)) 2 [0] [.rf 1,.ev (Ab 3)]) (Kv (AM (Aj 4) (AM (Aj 5) (AM (Aj 6) Bd)))))
    (CY (Ae [7,10] (Az (Ab 6))) (Aj 7) aQ))) (BX))
def Wx:Ev Bool:=
    Kl (GJ (FE (.ev (AB Ki [.rf 10,.ev (Aa (.ty "list"))])))) (Kl (Ca (AB cB [.rf 10,.rf 8])) (GJ (FE (.ev (CB (ups [false] true (FA (MH FK))) 1 [.rf 10])))))
def aP:Es:=
    Ae [9,10] (Al (Ad (AW (ups [false,false,false] true (Ck GW)) 3 [] [.ev (Ab 3),.ev (Ab 4),.ev (Ab 5)]) (Aj 10))
    (Al (DL (Wx) (Ae [0,1,2,3,4,5,6,7,8,9,10] (BG (Aa (.bl false)))) (BX))
    (DM (EJ 10 CI [.ev (AO (BI .tup []))]))))
def Ww:Ev Bool:=
    Kl (GJ (FE (.ev (AB Ki [.rf 10,.ev (Aa (.ty "bool"))])))) (Ca (AB cB [.rf 10,.ev (CB (ups [false,false,false,false] true (As (BE IQ))) 4 [.rf 3,.rf 4,.rf 5,.rf 7])]))
def aO:Es:=
    Ae [7,10] (Al (Ad (CB (ups [false,false,false,false] true (As (BE EA))) 4 [.rf 3,.rf 4,.rf 5,.rf 7]) (Aj 10))
    (DL (Ww) (Ae [0,1,2,3,4,5,6,7,8,9,10] (BG (Aa (.bl false)))) (BX)))
def aN:Es:=
    Ae [1,2,3,4,5,7,8,9,10] (Al (Ad (AW (ups [false,false] true (Bx ES)) 2 [] [.ev (Ab 0),.ev (Ab 2)]) (Aj 1))
    (Al (Ad (AO (AW (ups [true] true (Gd Dd)) 1 [0] [.rf 1])) (Aj 3))
    (Al (Ad (AW (ups [true,false] true (AR Bs)) 2 [0] [.rf 1,.ev (Ab 3)]) (Kv (AM (Aj 4) (AM (Aj 5) Bd))))
    (Al (Ad (AO (AW (ups [false,false,false] true (Ck CN)) 3 [] [.ev (Ab 3),.ev (Ab 4),.ev (Ab 5)])) (Aj 8))
    (Al (CY (Ae [9,10] (Bf (.ev (Aa (.int 2))))) (Aj 9) aP)
    (CY (Ae [7,10] (Az (AB DV [.ev (MT (.rf 8) (.ev (Aa (.int 6)))),.ev (AW (ups [true,false,false,false] true (HY CS)) 4 [0] [.rf 1,.ev (Ab 4),.ev (Ab 5),.ev (Ab 8)])]))) (Aj 7) aO))))))
def cV:Es:=
    Al (Ad (AW (ups [false,false] true (Bx ES)) 2 [] [.ev (Ab 0),.ev (AO (Aa (.int 0)))]) (Aj 1))
    (Al (ZV)
    (Al (CY (Ae [1,2,3,4,5,7,8,9,10] (KC (.ev (Aa (.int 1))) (.ev (Aa (.int 3))))) (Aj 2) aN)
    (Ae [0,1,2,3,4,5,6,7,8,9,10] (BG (Aa (.bl true))))))
def Li (x3 x4 x5 x7 x10:Dv):Option Bool:=
 (Jl x10 (Dv.ty "bool")).bind fun b9 =>
 if (!b9)=true then some true else (IQ x3 x4 x5 x7).bind fun r10 =>
 (WU x10 (Dv.bl r10)).bind fun b11 =>
 some b11
theorem EK (x0 x1 x3 x4 x5 x6 x7 x10:Dv) (S:List Ob):Wy ⟨[fm x0,tm x1,none,fm x3,fm x4,fm x5,fm x6,fm x7,none,none,tm x10],S⟩=(Li x3 x4 x5 x7 x10).map fun c=>(c,⟨[fm x0,tm x1,none,fm x3,fm x4,fm x5,fm x6,fm x7,none,none,tm x10],S⟩):=by
 simp only [↓sk,ss,Wy,Li,Nat.reduceAdd,Nat.reduceLeDiff]
 all_goals simp only [Dh]
def Jr (x3 x4 x5:Dv) (it:Dv) (c:Unit):Option (Lp Dv Unit Unit):=
 (EA x3 x4 x5 it).bind fun r8 =>
 (Li x3 x4 x5 it (Dv.bl r8)).bind fun c12 =>
 if c12=true then some (Lp.rt (Dv.bl false) ()) else some (Lp.go ())
def FG (x0 x1 x3 x4 x5 x6:Dv) (its:List Dv) (S:List Ob):=Ha (tg:=(Aj 7)) (b:=aQ) (w:=id) (E:=fun c:Unit=>⟨[fm x0,tm x1,none,fm x3,fm x4,fm x5,fm x6,none,none,none,none],S⟩) (Er:=fun c:Unit=>⟨[none,none,none,none,none,none,none,none,none,none,none],S⟩) (μ:=true) (g:=(Jr x3 x4 x5)) (fun it c=>by
 simp only [↓sk,ss,aQ,Jr,EK,Nat.reduceAdd,Nat.reduceLeDiff]) its ()
def Ln (x1:Dv):Option (Rs Dv Dv Unit):=
 (AL x1 (Dv.int 4)).bind fun r2 =>
 (WW r2.1 (Dv.int 0)).bind fun b3 =>
 if b3=true then (Dd r2.2).bind fun r4 =>
 (Ee r4.2 r4.1).bind fun r5 =>
 (gL r5.1).bind fun p6 =>
 (Ak p6.2.2).bind fun t7 =>
 (EX (Jr r4.1 p6.1 p6.2.1) t7 ()).bind fun l14=>l14.el (fun c13 =>
 some (Rs.go r5.2)) fun d15 r16=>some (Rs.rt d15 ()) else some (Rs.go r2.2)
theorem GK (x0 x1:Dv) (S:List Ob):ZV ⟨[fm x0,tm x1,none,none,none,none,none,none,none,none,none],S⟩=VU id (fun c:Dv=>⟨[fm x0,tm c,none,none,none,none,none,none,none,none,none],S⟩) (fun c:Unit=>⟨[none,none,none,none,none,none,none,none,none,none,none],S⟩) true (Ln x1):=by
 simp only [↓sk,ss,ZV,Ln,EK,FG,Nat.reduceAdd,Nat.reduceLeDiff]
def Lh (x8 x10:Dv):Option Bool:=
 (Jl x10 (Dv.ty "list")).bind fun b29 =>
 if (!b29)=true then some true else (WU x10 x8).bind fun b30 =>
 if b30=true then some true else (FK x10).bind fun r31 =>
 some (!r31)
theorem He (x0 x1 x2 x3 x4 x5 x8 x9 x10:Dv) (S:List Ob):Wx ⟨[fm x0,tm x1,fm x2,fm x3,fm x4,fm x5,none,none,fm x8,fm x9,tm x10],S⟩=(Lh x8 x10).map fun c=>(c,⟨[fm x0,tm x1,fm x2,fm x3,fm x4,fm x5,none,none,fm x8,fm x9,tm x10],S⟩):=by
 simp only [↓sk,ss,Wx,Lh,EK,FG,GK,Nat.reduceAdd,Nat.reduceLeDiff]
 all_goals simp only [Dh]
def Im (x3 x4 x5 x8:Dv) (it:Dv) (c:Unit):Option (Lp Dv Unit Unit):=
 (GW x3 x4 x5).bind fun r28 =>
 (Lh x8 r28).bind fun c32 =>
 if c32=true then some (Lp.rt (Dv.bl false) ()) else (BP r28 (Dv.tup [])).bind fun t33 =>
 some (Lp.go ())
def Jg (x0 x1 x2 x3 x4 x5 x8:Dv) (its:List Dv) (S:List Ob):=Ha (tg:=(Aj 9)) (b:=aP) (w:=id) (E:=fun c:Unit=>⟨[fm x0,tm x1,fm x2,fm x3,fm x4,fm x5,none,none,fm x8,none,none],S⟩) (Er:=fun c:Unit=>⟨[none,none,none,none,none,none,none,none,none,none,none],S⟩) (μ:=true) (g:=(Im x3 x4 x5 x8)) (fun it c=>by
 simp only [↓sk,ss,aP,Im,EK,FG,GK,He,Nat.reduceAdd,Nat.reduceLeDiff]) its ()
def Lg (x3 x4 x5 x7 x10:Dv):Option Bool:=
 (Jl x10 (Dv.ty "bool")).bind fun b43 =>
 if (!b43)=true then some true else (IQ x3 x4 x5 x7).bind fun r44 =>
 (WU x10 (Dv.bl r44)).bind fun b45 =>
 some b45
theorem MU (x0 x1 x2 x3 x4 x5 x7 x8 x10:Dv) (S:List Ob):Ww ⟨[fm x0,tm x1,fm x2,fm x3,fm x4,fm x5,none,fm x7,fm x8,none,tm x10],S⟩=(Lg x3 x4 x5 x7 x10).map fun c=>(c,⟨[fm x0,tm x1,fm x2,fm x3,fm x4,fm x5,none,fm x7,fm x8,none,tm x10],S⟩):=by
 simp only [↓sk,ss,Ww,Lg,EK,FG,GK,He,Jg,Nat.reduceAdd,Nat.reduceLeDiff]
 all_goals simp only [Dh]
def Il (x3 x4 x5:Dv) (it:Dv) (c:Unit):Option (Lp Dv Unit Unit):=
 (EA x3 x4 x5 it).bind fun r42 =>
 (Lg x3 x4 x5 it (Dv.bl r42)).bind fun c46 =>
 if c46=true then some (Lp.rt (Dv.bl false) ()) else some (Lp.go ())
def Rn (x0 x1 x2 x3 x4 x5 x8:Dv) (its:List Dv) (S:List Ob):=Ha (tg:=(Aj 7)) (b:=aO) (w:=id) (E:=fun c:Unit=>⟨[fm x0,tm x1,fm x2,fm x3,fm x4,fm x5,none,none,fm x8,none,none],S⟩) (Er:=fun c:Unit=>⟨[none,none,none,none,none,none,none,none,none,none,none],S⟩) (μ:=true) (g:=(Il x3 x4 x5)) (fun it c=>by
 simp only [↓sk,ss,aO,Il,EK,FG,GK,He,Jg,MU,Nat.reduceAdd,Nat.reduceLeDiff]) its ()
def Ik (x0:Dv) (it:Dv) (c:Unit):Option (Lp Dv Unit Unit):=
 (ES x0 it).bind fun r22 =>
 (Dd r22).bind fun r23 =>
 (Bs r23.2 r23.1).bind fun r24 =>
 (SD r24.1).bind fun p25 =>
 (CN r23.1 p25.1 p25.2).bind fun r26 =>
 (BY (Dv.int 2)).bind fun t27 =>
 (EX (Im r23.1 p25.1 p25.2 r26) t27 ()).bind fun l35=>l35.el (fun c34 =>
 (NF r26 (Dv.int 6)).bind fun t38 =>
 (CS r24.2 p25.1 p25.2 r26).bind fun r39 =>
 (Bm t38 r39.1).bind fun t40 =>
 (Ak t40).bind fun t41 =>
 (EX (Il r23.1 p25.1 p25.2) t41 ()).bind fun l48=>l48.el (fun c47 =>
 some (Lp.go ())) fun d49 r50=>some (Lp.rt d49 ())) fun d36 r37=>some (Lp.rt d36 ())
def Zj (x0:Dv) (its:List Dv) (S:List Ob):=Ha (tg:=(Aj 2)) (b:=aN) (w:=id) (E:=fun c:Unit=>⟨[fm x0,none,none,none,none,none,none,none,none,none,none],S⟩) (Er:=fun c:Unit=>⟨[none,none,none,none,none,none,none,none,none,none,none],S⟩) (μ:=true) (g:=(Ik x0)) (fun it c=>by
 simp only [↓sk,ss,aN,Ik,EK,FG,GK,He,Jg,MU,Rn,Nat.reduceAdd,Nat.reduceLeDiff]) its ()
def VT (x0:Dv):Option Dv:=
 (ES x0 (Dv.int 0)).bind fun r1 =>
 (Ln r1).bind fun l18=>l18.el (fun c17 =>
 (SF (Dv.int 1) (Dv.int 3)).bind fun t21 =>
 (EX (Ik x0) t21 ()).bind fun l52=>l52.el (fun c51 =>
 some (Dv.bl true)) fun d53 r54=>some d53) fun d19 r20=>some d19
theorem jY (x0:Dv) (S:List Ob):Bo 11 [] cV [mk false x0] S=(FA VT [x0]).map fun r=>(mk true r.1,r.2.map (mk true),S):=by
 rw [fH,Cn true 11 [] cV _ S [fm x0,none,none,none,none,none,none,none,none,none,none] rfl];simp only [↓sk,ss,cV,VT,EK,FG,GK,He,Jg,MU,Rn,Zj,Nat.reduceAdd,Nat.reduceLeDiff]
theorem ki {X:Cx} {i j pos}:QO X (.Constant (.int i) j pos) (.ev (Aa (.int i))):=AC Bi
theorem kx {X:Cx} {a b oa ob pos} (ha:QO X a oa) (hb:QO X b ob) (hs:QZ b):QE X (.Subscript a b pos) (AB Af [oa,ob]):=nq (pC X.K) iF ha hb hs
noncomputable def top (i:Nat):Stmt:=PySem.Challenge.pw_shapefree_k59_moves.main.body.getD i (.Pass ⟨0,0,0,0⟩)
section
variable {P:Program} {w:World} {K:W.Frag} {mg:Str->Option Value} {base:Heap} {f:Addr} {fd:FuncData}
abbrev SW:Stmt:=top 8
theorem Hx:FnScope ["_law_script", "_law_k", "_law_cell", "_law_own"] ["_law_script", "_law_k"] (AS SW):=⟨rfl,rfl,rfl,by decide +kernel,rfl,by decide +kernel,by decide +kernel⟩
theorem YF (F:Fun K "_law_feed" "_law_feed" SW f fd) (m_len:mg "len" = none):FnOk P w K mg base IJ 1 f fd ["_law_script", "_law_k"] (ER K 2 [] (ups [false,false] true (Bx ES))):=
  FD F Hx (by decide) (by decide) ⟨Pm,fun cdv A outer s H E hr=>(AF (Ac (i:=2) Hx.nd rfl (Or.inl rfl) (by decide) (AQ (BQ (BA K) BW (AC (BQ EB FY ki (AD (pv 1)))) ki)))
      (AF (Au [] (CF (BJ Nt Cr (AD (pv 1)) (AC (BF (Bb K) Dg rfl m_len PySem.boot_len (AA (AD (pv 0)) AE))) (BH _)) (AH (Ac (i:=2) Hx.nd rfl (Or.inl rfl) (by decide) (kx (AD (pv 0)) (AD (pv 1)) fun _ _=>rfl))) (AH (CF (BJ Qz Cr (AC (BF (Bb K) Dg rfl m_len PySem.boot_len (AA (AD (pv 0)) AE))) ki (BH _)) (AH (Ac (i:=2) Hx.nd rfl (Or.inl rfl) (by decide) (AQ (BQ (BA K) BW (AC (BQ EB FY (AC (BQ EV EU (AC (kx (AD (pv 0)) (AC (BQ EV EU (AD (pv 1)) (AC (BF (Bb K) Dg rfl m_len PySem.boot_len (AA (AD (pv 0)) AE))))) fun _ _=>rfl)) ki)) ki)) (AC (BQ EB FY ki (AD (pv 1)))))))) BM))))
      (AF (Ac (i:=3) Hx.nd rfl (Or.inl rfl) (by decide) (AQ Bi))
      (AF (Au [] (CF (BJ eU Cr (AD (pv 2)) (AC (BQ ic iD ki ki)) (BH _)) (AH (Ac (i:=3) Hx.nd rfl (Or.inl rfl) (by decide) (Ai (pv 2)))) BM))
      (AH (Au [0,1,2,3] (Ao (FM (AA (AC (Ai (pv 3))) (AA (AC (AQ (BQ (BA K) BW (AC (BQ EV EU (AC (BQ (BA K) BW (AC (BQ EB FY (AC (BQ EV EU (AD (pv 2)) ki)) ki)) (AC (BQ EB FY ki (AD (pv 1)))))) ki)) ki))) AE)))))))))),BK (ms:=[false,false]) fun xs S hl=>match xs,hl with | [x0,x1],_=>Zo x0 x1 S⟩
variable (P w K mg base) in
abbrev XLFeed:Prop:=Fx P w K mg base 1 "_law_feed" ["_law_script", "_law_k"] (ER K 2 [] (ups [false,false] true (Bx ES)))
abbrev SS:Stmt:=top 9
theorem Os:FnScope ["_law_feed_here", "_law_many", "_law_one", "_law_digit"] ["_law_feed_here", "_law_many"] (AS SS):=⟨rfl,rfl,rfl,by decide +kernel,rfl,by decide +kernel,by decide +kernel⟩
theorem YC (F:Fun K "_law_take" "_law_take" SS f fd)  : FnOk P w K mg base IJ 1 f fd ["_law_feed_here", "_law_many"] (ER K 2 [0] (ups [true,false] true (AR AL))):=
  FD F Os (by decide) (by decide) ⟨Pg,fun cdv A outer s H E hr=>(AF (CF (BJ Qz Cr (AC (kx (AD (pv 0)) ki fun _ _=>rfl)) ki (BH _)) (AF (Ac (i:=3) Os.nd rfl (Or.inl rfl) (by decide) (BQ EV EU (AC (kx (AD (pv 0)) ki fun _ _=>rfl)) (AD (pv 1))))
      (AF (Ey (AQ (BQ UD Xn (AC (kx (AD (pv 0)) ki fun _ _=>rfl)) (AD (pv 1)))) (pv 0) ki)
      (AH (Au [1,2,3] (Ao (Lw (pv 3))))))) BM)
      (AF (Ac (i:=2) Os.nd rfl (Or.inl rfl) (by decide) (AQ (BQ EV EU (AC (BQ EB FY (AC (kx (AD (pv 0)) ki fun _ _=>rfl)) ki)) ki)))
      (AF (Ey (AQ (BQ (BA K) BW (AC (BQ EV EU (AC (BQ (BA K) BW (AC (BQ EB FY (AD (pv 2)) ki)) ki)) ki)) ki)) (pv 0) ki)
      (AH (Au [1,2,3] (Ao (BQ EV EU (AC (BQ UD Xn (AC (BQ (BA K) BW (AC (BQ EB FY (AD (pv 2)) ki)) (AC (kx (AD (pv 0)) ki fun _ _=>rfl)))) ki)) (AD (pv 1))))))))),BK (ms:=[true,false]) fun xs S hl=>match xs,hl with | [x0,x1],_=>Zl x0 x1 S⟩
variable (P w K mg base) in
abbrev XLTake:Prop:=Fx P w K mg base 1 "_law_take" ["_law_feed_here", "_law_many"] (ER K 2 [0] (ups [true,false] true (AR AL)))
abbrev Of:Stmt:=top 10
theorem Cd:FnScope ["_law_feed_here", "_law_many", "_law_letters", "_law_stem", "_law_first", "_law_at", "_law_turn", "_law_names_here", "_law_k", "_law_sign", "_law_name"] ["_law_feed_here", "_law_many"] (AS Of):=⟨rfl,rfl,rfl,by decide +kernel,rfl,by decide +kernel,by decide +kernel⟩
theorem Vj (F:Fun K "_law_names" "_law_names" Of f fd) (FLTake:XLTake P w K mg base) (m_range:mg "range" = none) (m_len:mg "len" = none):FnOk P w K mg base IJ 2 f fd ["_law_feed_here", "_law_many"] (ER K 2 [0] (ups [true,false] true (AR DJ))):=
  FD F Cd (by decide) (by decide) ⟨LI,fun cdv A outer s H E hr=>(AF (Ac (i:=2) Cd.nd rfl (Or.inr rfl) (by decide) (AQ (IR (l:=[97,98,99,100,101,102,103,104,105,106,107,108,109,110,111,112,113,114,115,116,117,118,119,120,121,122]))))
      (AF (Ac (i:=3) Cd.nd rfl (Or.inl rfl) (by decide) (AQ (hJ PySem.F.plainAttrs_str PySem.F.slot_str_join PySem.F.type_str_join (YN K) bj (AC (IR (l:=[]))) (AA (AC (CU (js:=[8]) (by rfl) rfl (BZ rfl m_range (AC (AY FLTake hr (by first | decide | omega) rfl (AA (AD (pv 0)) (AA (AC (AQ Bi)) AE))))) (fun _ _ _ _ _=>(AJ (i:=8) Cd.nd rfl (Or.inl rfl) (.inr rfl))) (Ay (by decide)) AI (fun _ _ _ _ _=>(kx (AD (pv 2)) (AC (AY FLTake hr (by first | decide | omega) rfl (AA (AD (pv 0)) (AA (AC (AQ Bi)) AE)))) fun _ _=>rfl)))) AE))))
      (AF (hG (i:=4) (j:=5) rfl Cd.nd rfl rfl (by decide) rfl rfl (AA (AC (AQ (AY FLTake hr (by first | decide | omega) rfl (AA (AD (pv 0)) (AA (AC (AQ Bi)) AE))))) (AA (AC (AQ (AY FLTake hr (by first | decide | omega) rfl (AA (AD (pv 0)) (AA (AC (AQ (BQ (BA K) BW (AC (BF (Bb K) Dg rfl m_len PySem.boot_len (AA (AD (pv 3)) AE))) ki))) AE))))) AE)) (by rfl) (by decide) (by decide))
      (AF (Ac (i:=6) Cd.nd rfl (Or.inl rfl) (by decide) (AQ (AY FLTake hr (by first | decide | omega) rfl (AA (AD (pv 0)) (AA (AC (AQ Bi)) AE)))))
      (AF (Ac (i:=7) Cd.nd rfl (Or.inl rfl) (by decide) (FM AE))
      (AF (CG PassesOwn.never rfl (DU [8,9,10] (BZ rfl m_range (AD (pv 1)))) (AJ (i:=8) Cd.nd rfl (Or.inl rfl)) AI (by decide) (Bw [8,9,10] (AF (Ac (i:=9) Cd.nd rfl (Or.inl rfl) (by decide) (kx (AD (pv 2)) (AC (BQ EV EU (AC (BQ (BA K) BW (AD (pv 4)) (AC (BQ EB FY ki (AD (pv 8)))))) ki)) fun _ _=>rfl))
      (AF (Ac (i:=10) Cd.nd rfl (Or.inl rfl) (by decide) (AQ (BQ (BA K) BW (AC (BQ (BA K) BW (AC (Tw (AD (pv 3)) (AC (Ai (pv 5))))) (AD (pv 9)))) (AC (lL (AD (pv 3)) (AC (Ai (pv 5))) (AC (BQ EV EU (AC (BQ (BA K) BW (AD (pv 6)) (AD (pv 8)))) ki)))))))
      (AF (Au [] (CF (BJ (ik hr) iE (AD (pv 10)) (AC (DG (AA (AC (AQ (IR (l:=[100,101,102])))) (AA (AC (AQ (IR (l:=[108,101,116])))) (AA (AC (AQ (IR (l:=[116,101,108,108])))) (AA (AC (AQ (IR (l:=[108,111,111,112])))) (AA (AC (AQ (IR (l:=[112,105,99,107])))) (AA (AC (AQ (IR (l:=[99,97,108,108])))) AE)))))))) (by with_unfolding_all rfl)) (AH (Ac (i:=10) Cd.nd rfl (Or.inl rfl) (by decide) (AQ (BQ (BA K) BW (AD (pv 10)) (AC (IR (l:=[113]))))))) BM))
      (AH (De (Gr PySem.F.slot_list_append PySem.F.type_list_append Ct Cs (pv 7) (AA (AC (Ai (pv 10))) AE)))))))))
      (AF (Au [] (CF (NM (Lv (BJ Qz Cr (AD (pv 1)) ki (BH _)) (Lv (BJ Nt Cr (AC (BF (Bb K) Dg rfl m_len PySem.boot_len (AA (AC (kx (AD (pv 7)) (AC (bW OY Oz ki)) fun _ _=>rfl)) AE))) ki (BH _)) (Kx (BJ (L3.op_eqA hr) CH (AC (AY FLTake hr (by first | decide | omega) rfl (AA (AD (pv 0)) (AA (AC (AQ Bi)) AE)))) ki (BH _)))))) (AH (Ey (AQ (BQ (BA K) BW (AC (kx (AD (pv 7)) (AC (bW OY Oz ki)) fun _ _=>rfl)) (AC (IR (l:=[113]))))) (pv 7) (AC (bW OY Oz ki)))) BM))
      (AH (Au [1,2,3,4,5,6,7,8,9,10] (Ao (Lw (pv 7)))))))))))),BK (ms:=[true,false]) fun xs S hl=>match xs,hl with | [x0,x1],_=>WG x0 x1 S⟩
variable (P w K mg base) in
abbrev XLNames:Prop:=Fx P w K mg base 2 "_law_names" ["_law_feed_here", "_law_many"] (ER K 2 [0] (ups [true,false] true (AR DJ)))
abbrev Oe:Stmt:=top 11
theorem Eu:FnScope ["_law_feed_here", "_law_stem", "_law_fixed", "_law_names_here", "_law_acts", "_law_name", "_law_k"] ["_law_feed_here"] (AS Oe):=⟨rfl,rfl,rfl,by decide +kernel,rfl,by decide +kernel,by decide +kernel⟩
theorem Vi (F:Fun K "_law_shape" "_law_shape" Oe f fd) (FLNames:XLNames P w K mg base) (FLTake:XLTake P w K mg base) (m_range:mg "range" = none) (m_tuple:mg "tuple" = none):FnOk P w K mg base IJ 3 f fd ["_law_feed_here"] (ER K 1 [0] (ups [true] true (Gd Dd))):=
  FD F Eu (by decide) (by decide) ⟨LH,fun cdv A outer s H E hr=>(AF (Ac (i:=1) Eu.nd rfl (Or.inl rfl) (by decide) (AQ (AY FLNames hr (by first | decide | omega) rfl (AA (AD (pv 0)) (AA (AC (AQ Bi)) AE)))))
      (AF (Xd (i:=2) (Ky (i:=2) Eu.nd rfl (Or.inl rfl) (by decide) (js:=[5]) (by rfl) rfl (Bn (Tw (AD (pv 1)) (AC (AY FLTake hr (by first | decide | omega) rfl (AA (AD (pv 0)) (AA (AC (AQ Bi)) AE)))))) (fun _ _ _ _ _=>(AJ (i:=5) Eu.nd rfl (Or.inl rfl) (.inr rfl))) (Ay (by decide)) AI (fun _ _ _ _ _=>(AQ (BQ (BA K) BW (AC (bY PySem.F.plainAttrs_str PySem.F.slot_str_upper PySem.F.type_str_upper YL Xl (AC (Tw (AD (pv 5)) ki)))) (AC (eN (AD (pv 5)) ki)))))))
      (AF (Ac (i:=3) Eu.nd rfl (Or.inr rfl) (by decide) (AQ (AY FLNames hr (by first | decide | omega) rfl (AA (AD (pv 0)) (AA (AC (AQ Bi)) AE)))))
      (AF (Xd (i:=4) (Ky (i:=4) Eu.nd rfl (Or.inl rfl) (by decide) (js:=[6]) (by rfl) rfl (BZ rfl m_range (AC (kx (AC (FM (AA (AC (AQ Bi)) (AA (AC (AQ Bi)) (AA (AC (AQ Bi)) (AA (AC (AQ Bi)) (AA (AC (AQ Bi)) (AA (AC (AQ Bi)) (AA (AC (AQ Bi)) (AA (AC (AQ Bi)) AE)))))))))) (AC (AY FLTake hr (by first | decide | omega) rfl (AA (AD (pv 0)) (AA (AC (AQ Bi)) AE)))) fun _ _=>rfl))) (fun _ _ _ _ _=>(AJ (i:=6) Eu.nd rfl (Or.inl rfl) (.inr rfl))) (Ay (by decide)) AI (fun _ _ _ _ _=>(AQ (DG (AA (AC (kx (AD (pv 3)) (AD (pv 6)) fun _ _=>rfl)) (AA (AC (AQ (BQ (BA K) BW ki (AC (AY FLTake hr (by first | decide | omega) rfl (AA (AD (pv 0)) (AA (AC (AQ Bi)) AE))))))) AE)))))))
      (AH (Au [1,2,3,4,5,6] (Ao (DG (AA (AC (AQ (Aw (An K) BR rfl m_tuple PyProof.Rows.Boot.«tuple» (AA (AD (pv 2)) AE)))) (AA (AC (AQ (Aw (An K) BR rfl m_tuple PyProof.Rows.Boot.«tuple» (AA (AD (pv 4)) AE)))) AE)))))))))),BK (ms:=[true]) fun xs S hl=>match xs,hl with | [x0],_=>WE x0 S⟩
variable (P w K mg base) in
abbrev XLShape:Prop:=Fx P w K mg base 3 "_law_shape" ["_law_feed_here"] (ER K 1 [0] (ups [true] true (Gd Dd)))
abbrev Oc:Stmt:=top 12
theorem DY:FnScope ["_law_feed_here", "_law_shape_here", "_law_n", "_law_things", "_law_tables", "_law_d", "_law_reach", "_law_c", "_law_k", "_law_j"] ["_law_feed_here", "_law_shape_here", "_law_n"] (AS Oc):=⟨rfl,rfl,rfl,by decide +kernel,rfl,by decide +kernel,by decide +kernel⟩
theorem Vg (F:Fun K "_law_world" "_law_world" Oc f fd) (FLTake:XLTake P w K mg base) (m_tuple:mg "tuple" = none) (m_range:mg "range" = none):FnOk P w K mg base IJ 2 f fd ["_law_feed_here", "_law_shape_here", "_law_n"] (ER K 3 [0] (ups [true,false,false] true (FZ CW))):=
  FD F DY (by decide) (by decide) ⟨LF,fun cdv A outer s H E hr=>(AF (Ac (i:=3) DY.nd rfl (Or.inl rfl) (by decide) (AQ (Aw (An K) BR rfl m_tuple PyProof.Rows.Boot.«tuple» (AA (AC (CU (js:=[7]) (by rfl) rfl (Bn (kx (AD (pv 1)) ki fun _ _=>rfl)) (fun _ _ _ _ _=>(AJ (i:=7) DY.nd rfl (Or.inl rfl) (.inr rfl))) (Ay (by decide)) AI (fun _ _ _ _ _=>(AQ (AY FLTake hr (by first | decide | omega) rfl (AA (AD (pv 0)) (AA (AC (Ai (pv 2))) AE))))))) AE))))
      (AF (Ac (i:=4) DY.nd rfl (Or.inl rfl) (by decide) (FM AE))
      (AF (CG PassesOwn.never rfl (DU [5,6] (Bn (kx (AD (pv 1)) ki fun _ _=>rfl))) (Eg K (n:=2) rfl (BC (AJ (i:=5) DY.nd rfl (Or.inl rfl)) (BC (AJ (i:=6) DY.nd rfl (Or.inl rfl)) Ef))) (GR (BB AI (BB AI Eb)) (BD (BD Ei))) (by decide) (Bw [5,6] (AH (CF (BJ (L3.op_eqA hr) CH (AD (pv 6)) ki (BH _)) (AH (De (Gr PySem.F.slot_list_append PySem.F.type_list_append Ct Cs (pv 4) (AA (AC (AQ (Aw (An K) BR rfl m_tuple PyProof.Rows.Boot.«tuple» (AA (AC (CU (js:=[8]) (by rfl) rfl (BZ rfl m_range (AD (pv 2))) (fun _ _ _ _ _=>(AJ (i:=8) DY.nd rfl (Or.inl rfl) (.inr rfl))) (Ay (by decide)) AI (fun _ _ _ _ _=>(AQ (AY FLTake hr (by first | decide | omega) rfl (AA (AD (pv 0)) (AA (AC (Ai (pv 2))) AE))))))) AE)))) AE)))) (AH (De (Gr PySem.F.slot_list_append PySem.F.type_list_append Ct Cs (pv 4) (AA (AC (AQ (Aw (An K) BR rfl m_tuple PyProof.Rows.Boot.«tuple» (AA (AC (CU (js:=[9]) (by rfl) rfl (BZ rfl m_range (AD (pv 2))) (fun _ _ _ _ _=>(AJ (i:=9) DY.nd rfl (Or.inl rfl) (.inr rfl))) (Ay (by decide)) AI (fun _ _ _ _ _=>(AQ (Aw (An K) BR rfl m_tuple PyProof.Rows.Boot.«tuple» (AA (AC (CU (js:=[8]) (by rfl) rfl (BZ rfl m_range (AD (pv 2))) (fun _ _ _ _ _=>(AJ (i:=8) DY.nd rfl (Or.inl rfl) (.inr rfl))) (Ay (by decide)) AI (fun _ _ _ _ _=>(AQ (AY FLTake hr (by first | decide | omega) rfl (AA (AD (pv 0)) (AA (AC (Ai (pv 2))) AE))))))) AE)))))) AE)))) AE))))))))
      (AH (Au [1,2,3,4,5,6,7,8,9] (Ao (DG (AA (AC (Ai (pv 2))) (AA (AC (Ai (pv 3))) (AA (AC (AQ (Aw (An K) BR rfl m_tuple PyProof.Rows.Boot.«tuple» (AA (AD (pv 4)) AE)))) AE)))))))))),BK (ms:=[true,false,false]) fun xs S hl=>match xs,hl with | [x0,x1,x2],_=>WC x0 x1 x2 S⟩
variable (P w K mg base) in
abbrev XLWorld:Prop:=Fx P w K mg base 2 "_law_world" ["_law_feed_here", "_law_shape_here", "_law_n"] (ER K 3 [0] (ups [true,false,false] true (FZ CW)))
abbrev Ii:Stmt:=top 17
theorem HN:FnScope ["_law_feed_here", "_law_count", "_law_left", "_law_found"] ["_law_feed_here", "_law_count"] (AS Ii):=⟨rfl,rfl,rfl,by decide +kernel,rfl,by decide +kernel,by decide +kernel⟩
theorem PM (F:Fun K "_law_shuffled" "_law_shuffled" Ii f fd) (FLTake:XLTake P w K mg base) (m_list:mg "list" = none) (m_range:mg "range" = none) (m_len:mg "len" = none) (m_tuple:mg "tuple" = none):FnOk P w K mg base IJ 2 f fd ["_law_feed_here", "_law_count"] (ER K 2 [0] (ups [true,false] true (AR Be))):=
  FD F HN (by decide) (by decide) ⟨Gb,fun cdv A outer s H E hr=>(AF (Ac (i:=2) HN.nd rfl (Or.inl rfl) (by decide) (VY rfl rfl m_list rfl m_range (AA (AD (pv 1)) AE)))
      (AF (Ac (i:=3) HN.nd rfl (Or.inl rfl) (by decide) (FM AE))
      (AF (gy [] (Xb SI PassesOwn.never (BJ Qz Cr (AC (BF (Bb K) Dg rfl m_len PySem.boot_len (AA (AD (pv 2)) AE))) ki (BH _)) (Bw [] (AH (De (Gr PySem.F.slot_list_append PySem.F.type_list_append Ct Cs (pv 3) (AA (AC (Gr PySem.F.slot_list_pop PySem.F.type_list_pop YM YK (pv 2) (AA (AC (AY FLTake hr (by first | decide | omega) rfl (AA (AD (pv 0)) (AA (AC (AQ (BF (Bb K) Dg rfl m_len PySem.boot_len (AA (AD (pv 2)) AE)))) AE)))) AE))) AE)))))))
      (AH (Au [1,2,3] (Ao (Aw (An K) BR rfl m_tuple PyProof.Rows.Boot.«tuple» (AA (AD (pv 3)) AE)))))))),BK (ms:=[true,false]) fun xs S hl=>match xs,hl with | [x0,x1],_=>QB x0 x1 S⟩
variable (P w K mg base) in
abbrev XLShuffled:Prop:=Fx P w K mg base 2 "_law_shuffled" ["_law_feed_here", "_law_count"] (ER K 2 [0] (ups [true,false] true (AR Be)))
abbrev Jo:Stmt:=top 18
theorem Bl:FnScope ["_law_shape_here", "_law_world_here", "_law_things", "_law_n", "_law_spots", "_law_tables", "_law_deed", "_law_table", "_law_thing", "_law_a", "_law_b"] ["_law_shape_here", "_law_world_here", "_law_things"] (AS Jo):=⟨rfl,rfl,rfl,by decide +kernel,rfl,by decide +kernel,by decide +kernel⟩
theorem RC (F:Fun K "_law_renamed" "_law_renamed" Jo f fd) (m_range:mg "range" = none) (m_tuple:mg "tuple" = none) (m_zip:mg "zip" = none):FnOk P w K mg base IJ 1 f fd ["_law_shape_here", "_law_world_here", "_law_things"] (ER K 3 [] (ups [false,false,false] true (Ck CD))):=
  FD F Bl (by decide) (by decide) ⟨IB,fun cdv A outer s H E hr=>(AF (Ac (i:=3) Bl.nd rfl (Or.inr rfl) (by decide) (kx (AD (pv 1)) ki fun _ _=>rfl))
      (AF (Ac (i:=4) Bl.nd rfl (Or.inr rfl) (by decide) (AQ (CU (js:=[8]) (by rfl) rfl (BZ rfl m_range (AD (pv 3))) (fun _ _ _ _ _=>(AJ (i:=8) Bl.nd rfl (Or.inl rfl) (.inr rfl))) (Ay (by decide)) AI (fun _ _ _ _ _=>(AQ (bX PySem.F.slot_tuple_index PySem.F.type_tuple_index (Sr hr) VZ (Ai (pv 2)) (AA (AD (pv 8)) AE)))))))
      (AF (Ac (i:=5) Bl.nd rfl (Or.inl rfl) (by decide) (FM AE))
      (AF (CG PassesOwn.never rfl (DU [6,7] (Tv rfl m_zip (AA (AC (kx (AD (pv 0)) ki fun _ _=>rfl)) (AA (AC (kx (AD (pv 1)) ki fun _ _=>rfl)) AE)))) (Eg K (n:=2) rfl (BC (AJ (i:=6) Bl.nd rfl (Or.inl rfl)) (BC (AJ (i:=7) Bl.nd rfl (Or.inr rfl)) Ef))) (GR (BB AI (BB AI Eb)) (BD (BD Ei))) (by decide) (Bw [6,7] (AH (CF (BJ (L3.op_eqA hr) CH (AC (kx (AD (pv 6)) ki fun _ _=>rfl)) ki (BH _)) (AH (De (Gr PySem.F.slot_list_append PySem.F.type_list_append Ct Cs (pv 5) (AA (AC (AQ (Aw (An K) BR rfl m_tuple PyProof.Rows.Boot.«tuple» (AA (AC (CU (js:=[9]) (by rfl) rfl (BZ rfl m_range (AD (pv 3))) (fun _ _ _ _ _=>(AJ (i:=9) Bl.nd rfl (Or.inl rfl) (.inr rfl))) (Ay (by decide)) AI (fun _ _ _ _ _=>(kx (AD (pv 2)) (AC (kx (AD (pv 7)) (AC (kx (AD (pv 4)) (AD (pv 9)) fun _ _=>rfl)) fun _ _=>rfl)) fun _ _=>rfl)))) AE)))) AE)))) (AH (De (Gr PySem.F.slot_list_append PySem.F.type_list_append Ct Cs (pv 5) (AA (AC (AQ (Aw (An K) BR rfl m_tuple PyProof.Rows.Boot.«tuple» (AA (AC (CU (js:=[9]) (by rfl) rfl (BZ rfl m_range (AD (pv 3))) (fun _ _ _ _ _=>(AJ (i:=9) Bl.nd rfl (Or.inr rfl) (.inl rfl))) (Ay (by decide)) AI (fun _ _ _ _ _=>(AQ (Aw (An K) BR rfl m_tuple PyProof.Rows.Boot.«tuple» (AA (AC (CU (js:=[10]) (by rfl) rfl (BZ rfl m_range (AD (pv 3))) (fun _ _ _ _ _=>(AJ (i:=10) Bl.nd rfl (Or.inl rfl) (.inr rfl))) (Ay (by decide)) AI (fun _ _ _ _ _=>(kx (AD (pv 2)) (AC (kx (AC (kx (AD (pv 7)) (AC (kx (AD (pv 4)) (AD (pv 9)) fun _ _=>rfl)) fun _ _=>rfl)) (AC (kx (AD (pv 4)) (AD (pv 10)) fun _ _=>rfl)) fun _ _=>rfl)) fun _ _=>rfl)))) AE)))))) AE)))) AE))))))))
      (AH (Au [0,1,2,3,4,5,6,7,8,9,10] (Ao (DG (AA (AC (Ai (pv 3))) (AA (AC (AQ (Aw (An K) BR rfl m_tuple PyProof.Rows.Boot.«tuple» (AA (AC (CU (js:=[8]) (by rfl) rfl (Bn (kx (AD (pv 1)) ki fun _ _=>rfl)) (fun _ _ _ _ _=>(AJ (i:=8) Bl.nd rfl (Or.inl rfl) (.inr rfl))) (Ay (by decide)) AI (fun _ _ _ _ _=>(kx (AD (pv 2)) (AD (pv 8)) fun _ _=>rfl)))) AE)))) (AA (AC (AQ (Aw (An K) BR rfl m_tuple PyProof.Rows.Boot.«tuple» (AA (AD (pv 5)) AE)))) AE))))))))))),BK (ms:=[false,false,false]) fun xs S hl=>match xs,hl with | [x0,x1,x2],_=>Rt x0 x1 x2 S⟩
variable (P w K mg base) in
abbrev XLRenamed:Prop:=Fx P w K mg base 1 "_law_renamed" ["_law_shape_here", "_law_world_here", "_law_things"] (ER K 3 [] (ups [false,false,false] true (Ck CD)))
abbrev Oh:Stmt:=top 24
theorem HQ:FnScope ["_law_feed_here", "_law_shape_here", "_law_one", "_law_row", "_law_other", "_law_bent"] ["_law_feed_here", "_law_shape_here"] (AS Oh):=⟨rfl,rfl,rfl,by decide +kernel,rfl,by decide +kernel,by decide +kernel⟩
theorem Vl (F:Fun K "_law_great" "_law_great" Oh f fd) (FLWorld:XLWorld P w K mg base) (FLTake:XLTake P w K mg base) (FLShuffled:XLShuffled P w K mg base) (FLRenamed:XLRenamed P w K mg base) (m_list:mg "list" = none) (m_tuple:mg "tuple" = none):FnOk P w K mg base IJ 3 f fd ["_law_feed_here", "_law_shape_here"] (ER K 2 [0] (ups [true,false] true (AR Ee))):=
  FD F HQ (by decide) (by decide) ⟨LK,fun cdv A outer s H E hr=>(AF (Ac (i:=2) HQ.nd rfl (Or.inl rfl) (by decide) (AQ (AY FLWorld hr (by first | decide | omega) rfl (AA (AD (pv 0)) (AA (AC (Ai (pv 1))) (AA (AC (AQ (BQ (BA K) BW ki (AC (AY FLTake hr (by first | decide | omega) rfl (AA (AD (pv 0)) (AA (AC (kx (AC (FM (AA (AC (AQ Bi)) (AA (AC (AQ Bi)) AE)))) (AC (AY FLTake hr (by first | decide | omega) rfl (AA (AD (pv 0)) (AA (AC (AQ Bi)) AE)))) fun _ _=>rfl)) AE))))))) AE))))))
      (AF (Ac (i:=3) HQ.nd rfl (Or.inl rfl) (by decide) (AQ (AY FLShuffled hr (by first | decide | omega) rfl (AA (AD (pv 0)) (AA (AC (kx (AD (pv 2)) ki fun _ _=>rfl)) AE)))))
      (AF (Ac (i:=4) HQ.nd rfl (Or.inl rfl) (by decide) (AQ (AY FLRenamed hr (by first | decide | omega) rfl (AA (AC (Ai (pv 1))) (AA (AC (Ai (pv 2))) (AA (AC (Ai (pv 3))) AE))))))
      (AF (Ac (i:=5) HQ.nd rfl (Or.inl rfl) (by decide) (Aw (Gj K) Kz rfl m_list PyProof.Rows.Boot.«list» (AA (AD (pv 3)) AE)))
      (AF (Ey (AQ (AY FLTake hr (by first | decide | omega) rfl (AA (AD (pv 0)) (AA (AC (kx (AD (pv 2)) ki fun _ _=>rfl)) AE)))) (pv 5) (AC (AY FLTake hr (by first | decide | omega) rfl (AA (AD (pv 0)) (AA (AC (kx (AD (pv 2)) ki fun _ _=>rfl)) AE)))))
      (AH (Au [1,2,3,4,5] (Ao (DG (AA (AC (Ai (pv 2))) (AA (AC (Ai (pv 4))) (AA (AC (AQ (FM (AA (AC (Ai (pv 3))) (AA (AC (AQ (Aw (An K) BR rfl m_tuple PyProof.Rows.Boot.«tuple» (AA (AD (pv 5)) AE)))) (AA (AC (AQ (eN (AD (pv 3)) ki))) (AA (AC (AQ (BQ (BA K) BW (AD (pv 3)) (AC (DG (AA (AC (AQ Bi)) AE)))))) (AA (AC (Ai (pv 3))) AE)))))))) AE)))))))))))),BK (ms:=[true,false]) fun xs S hl=>match xs,hl with | [x0,x1],_=>WI x0 x1 S⟩
variable (P w K mg base) in
abbrev XLGreat:Prop:=Fx P w K mg base 3 "_law_great" ["_law_feed_here", "_law_shape_here"] (ER K 2 [0] (ups [true,false] true (AR Ee)))
abbrev SV:Stmt:=top 19
theorem GV:FnScope ["_law_feed_here", "_law_world_here", "_law_n", "_law_tables", "_law_table", "_law_rows_here", "_law_k", "_law_thing"] ["_law_feed_here", "_law_world_here"] (AS SV):=⟨rfl,rfl,rfl,by decide +kernel,rfl,by decide +kernel,by decide +kernel⟩
theorem YE (F:Fun K "_law_flat" "_law_flat" SV f fd) (FLTake:XLTake P w K mg base) (m_list:mg "list" = none) (m_tuple:mg "tuple" = none) (m_isinstance:mg "isinstance" = none) (m_len:mg "len" = none) (m_range:mg "range" = none):FnOk P w K mg base IJ 2 f fd ["_law_feed_here", "_law_world_here"] (ER K 2 [0] (ups [true,false] true (AR Ex))):=
  FD F GV (by decide) (by decide) ⟨Pj,fun cdv A outer s H E hr=>(AF (Ac (i:=2) GV.nd rfl (Or.inr rfl) (by decide) (AQ (BQ (BA K) BW ki (AC (AY FLTake hr (by first | decide | omega) rfl (AA (AD (pv 0)) (AA (AC (kx (AD (pv 1)) ki fun _ _=>rfl)) AE)))))))
      (AF (Ac (i:=3) GV.nd rfl (Or.inl rfl) (by decide) (FM AE))
      (AF (CG PassesOwn.never rfl (DU [4,5,6] (Bn (kx (AD (pv 1)) ki fun _ _=>rfl))) (AJ (i:=4) GV.nd rfl (Or.inl rfl)) AI (by decide) (Bw [4,5,6] (AF (Ac (i:=5) GV.nd rfl (Or.inl rfl) (by decide) (Aw (Gj K) Kz rfl m_list PyProof.Rows.Boot.«list» (AA (AD (pv 4)) AE)))
      (AF (CG PassesOwn.never rfl (DU [6] (BZ rfl m_range (AC (BF (Bb K) Dg rfl m_len PySem.boot_len (AA (AD (pv 5)) AE))))) (AJ (i:=6) GV.nd rfl (Or.inl rfl)) AI (by decide) (Bw [6] (AH (CF (ET (AC (BF (Dw K) Iq rfl m_isinstance PyProof.Rows.Boot.«isinstance» (AA (AC (kx (AD (pv 5)) (AD (pv 6)) fun _ _=>rfl)) (AA (AC (Se (GY (v:=.ty "tuple") rfl m_tuple PyProof.Rows.Boot.«tuple» rfl))) AE)))) (fun _=>rfl)) (AH (Ey (AQ (Aw (An K) BR rfl m_tuple PyProof.Rows.Boot.«tuple» (AA (AC (CU (js:=[7]) (by rfl) rfl (Bn (kx (AD (pv 5)) (AD (pv 6)) fun _ _=>rfl)) (fun _ _ _ _ _=>(AJ (i:=7) GV.nd rfl (Or.inl rfl) (.inr rfl))) (Ay (by decide)) AI (fun _ _ _ _ _=>(AQ (BQ EV EU (AD (pv 7)) (AD (pv 2))))))) AE))) (pv 5) (AD (pv 6)))) (AH (Ey (AQ (BQ EV EU (AC (kx (AD (pv 5)) (AD (pv 6)) fun _ _=>rfl)) (AD (pv 2)))) (pv 5) (AD (pv 6))))))))
      (AH (De (Gr PySem.F.slot_list_append PySem.F.type_list_append Ct Cs (pv 3) (AA (AC (AQ (Aw (An K) BR rfl m_tuple PyProof.Rows.Boot.«tuple» (AA (AD (pv 5)) AE)))) AE))))))))
      (AH (Au [1,2,3,4,5,6,7] (Ao (DG (AA (AC (kx (AD (pv 1)) ki fun _ _=>rfl)) (AA (AC (kx (AD (pv 1)) ki fun _ _=>rfl)) (AA (AC (AQ (Aw (An K) BR rfl m_tuple PyProof.Rows.Boot.«tuple» (AA (AD (pv 3)) AE)))) AE)))))))))),BK (ms:=[true,false]) fun xs S hl=>match xs,hl with | [x0,x1],_=>Zn x0 x1 S⟩
variable (P w K mg base) in
abbrev XLFlat:Prop:=Fx P w K mg base 2 "_law_flat" ["_law_feed_here", "_law_world_here"] (ER K 2 [0] (ups [true,false] true (AR Ex)))
abbrev HG:Stmt:=top 20
theorem Cq:FnScope ["_law_feed_here", "_law_shape_here", "_law_one", "_law_form", "_law_other"] ["_law_feed_here", "_law_shape_here"] (AS HG):=⟨rfl,rfl,rfl,by decide +kernel,rfl,by decide +kernel,by decide +kernel⟩
theorem NO (F:Fun K "_law_two_worlds" "_law_two_worlds" HG f fd) (FLWorld:XLWorld P w K mg base) (FLTake:XLTake P w K mg base) (FLFlat:XLFlat P w K mg base) (FLRenamed:XLRenamed P w K mg base) (FLShuffled:XLShuffled P w K mg base):FnOk P w K mg base IJ 3 f fd ["_law_feed_here", "_law_shape_here"] (ER K 2 [0] (ups [true,false] true (AR Bs))):=
  FD F Cq (by decide) (by decide) ⟨FP,fun cdv A outer s H E hr=>(AF (Ac (i:=2) Cq.nd rfl (Or.inl rfl) (by decide) (AQ (AY FLWorld hr (by first | decide | omega) rfl (AA (AD (pv 0)) (AA (AC (Ai (pv 1))) (AA (AC (AQ (BQ (BA K) BW ki (AC (AY FLTake hr (by first | decide | omega) rfl (AA (AD (pv 0)) (AA (AC (AQ Bi)) AE))))))) AE))))))
      (AF (Au [] (CF (BJ (L3.op_eqA hr) CH (AC (AY FLTake hr (by first | decide | omega) rfl (AA (AD (pv 0)) (AA (AC (AQ Bi)) AE)))) ki (BH _)) (AH (Ac (i:=2) Cq.nd rfl (Or.inl rfl) (by decide) (AQ (AY FLFlat hr (by first | decide | omega) rfl (AA (AD (pv 0)) (AA (AC (Ai (pv 2))) AE)))))) BM))
      (AF (Ac (i:=3) Cq.nd rfl (Or.inl rfl) (by decide) (AQ (AY FLTake hr (by first | decide | omega) rfl (AA (AD (pv 0)) (AA (AC (AQ Bi)) AE)))))
      (AF (CF (BJ (L3.op_eqA hr) CH (AD (pv 3)) ki (BH _)) (AH (Au [1,2,3,4] (Ao (DG (AA (AC (Ai (pv 2))) (AA (AC (Ai (pv 2))) AE)))))) BM)
      (AF (CF (BJ Nt Cr (AD (pv 3)) ki (BH _)) (AH (Au [1,2,3,4] (Ao (DG (AA (AC (Ai (pv 2))) (AA (AC (AQ (AY FLRenamed hr (by first | decide | omega) rfl (AA (AC (Ai (pv 1))) (AA (AC (Ai (pv 2))) (AA (AC (AQ (AY FLShuffled hr (by first | decide | omega) rfl (AA (AD (pv 0)) (AA (AC (kx (AD (pv 2)) ki fun _ _=>rfl)) AE))))) AE)))))) AE)))))) BM)
      (AF (Ac (i:=4) Cq.nd rfl (Or.inl rfl) (by decide) (AQ (AY FLWorld hr (by first | decide | omega) rfl (AA (AD (pv 0)) (AA (AC (Ai (pv 1))) (AA (AC (AQ (BQ (BA K) BW ki (AC (AY FLTake hr (by first | decide | omega) rfl (AA (AD (pv 0)) (AA (AC (AQ Bi)) AE))))))) AE))))))
      (AF (Au [] (CF (BJ (L3.op_eqA hr) CH (AD (pv 3)) ki (BH _)) (AH (Ac (i:=4) Cq.nd rfl (Or.inl rfl) (by decide) (AQ (AY FLFlat hr (by first | decide | omega) rfl (AA (AD (pv 0)) (AA (AC (Ai (pv 4))) AE)))))) BM))
      (AH (Au [1,2,3,4] (Ao (DG (AA (AC (Ai (pv 2))) (AA (AC (Ai (pv 4))) AE))))))))))))),BK (ms:=[true,false]) fun xs S hl=>match xs,hl with | [x0,x1],_=>NW x0 x1 S⟩
variable (P w K mg base) in
abbrev XLTwoWorlds:Prop:=Fx P w K mg base 3 "_law_two_worlds" ["_law_feed_here", "_law_shape_here"] (ER K 2 [0] (ups [true,false] true (AR Bs)))
abbrev Ig:Stmt:=top 15
theorem FJ:FnScope ["_law_found", "_law_count", "_law_some", "_law_row", "_law_thing"] ["_law_found", "_law_count"] (AS Ig):=⟨rfl,rfl,rfl,by decide +kernel,rfl,by decide +kernel,by decide +kernel⟩
theorem PL (F:Fun K "_law_with_each" "_law_with_each" Ig f fd) (m_range:mg "range" = none):FnOk P w K mg base IJ 1 f fd ["_law_found", "_law_count"] (ER K 2 [] (ups [false,false] true (Bx Ci))):=
  FD F FJ (by decide) (by decide) ⟨Ga,fun cdv A outer s H E hr=>(AF (Ac (i:=2) FJ.nd rfl (Or.inl rfl) (by decide) (FM AE))
      (AF (CG PassesOwn.never rfl (DU [3] (Bn (Ai (pv 0)))) (AJ (i:=3) FJ.nd rfl (Or.inr rfl)) AI (by decide) (Bw [3] (AH (De (Gr PySem.F.slot_list_extend PySem.F.type_list_extend Nv Nu (pv 2) (AA (AC (CU (js:=[4]) (by rfl) rfl (BZ rfl m_range (AD (pv 1))) (fun _ _ _ _ _=>(AJ (i:=4) FJ.nd rfl (Or.inl rfl) (.inr rfl))) (Ay (by decide)) AI (fun _ _ _ _ _=>(AQ (DG (AA (AC (Ai (pv 3))) (AA (AC (Ai (pv 4))) AE))))))) AE))))))
      (AH (Au [0,1,2,3,4] (Ao (Lw (pv 2))))))),BK (ms:=[false,false]) fun xs S hl=>match xs,hl with | [x0,x1],_=>Pu x0 x1 S⟩
variable (P w K mg base) in
abbrev XLWithEach:Prop:=Fx P w K mg base 1 "_law_with_each" ["_law_found", "_law_count"] (ER K 2 [] (ups [false,false] true (Bx Ci)))
abbrev SU:Stmt:=top 14
theorem Hw:FnScope ["_law_count", "_law_length", "_law_found", "_law_turn", "_law_row", "_law_thing"] ["_law_count", "_law_length"] (AS SU):=⟨rfl,rfl,rfl,by decide +kernel,rfl,by decide +kernel,by decide +kernel⟩
theorem YD (F:Fun K "_law_rows" "_law_rows" SU f fd) (FLWithEach:XLWithEach P w K mg base) (m_range:mg "range" = none):FnOk P w K mg base IJ 2 f fd ["_law_count", "_law_length"] (ER K 2 [] (ups [false,false] true (Bx HV))):=
  FD F Hw (by decide) (by decide) ⟨Pi,fun cdv A outer s H E hr=>(AF (Ac (i:=2) Hw.nd rfl (Or.inl rfl) (by decide) (FM (AA (AC (AQ (DG AE))) AE)))
      (AF (CG PassesOwn.never rfl (DU [3] (BZ rfl m_range (AD (pv 1)))) (AJ (i:=3) Hw.nd rfl (Or.inl rfl)) AI (by decide) (Bw [3] (AH (Ky (i:=2) Hw.nd rfl (Or.inl rfl) (by decide) (js:=[4,5]) (by rfl) rfl (Bn (AY FLWithEach hr (by first | decide | omega) rfl (AA (AC (Ai (pv 2))) (AA (AC (Ai (pv 0))) AE)))) (fun _ _ _ _ _=>(Eg K (n:=2) rfl (BC (AJ (i:=4) Hw.nd rfl (Or.inl rfl) (.inr rfl)) (BC (AJ (i:=5) Hw.nd rfl (Or.inl rfl) (.inr rfl)) Ef)))) (Ud (IC (by decide) (IC (by decide) Ra))) (GR (BB AI (BB AI Eb)) (BD (BD Ei))) (fun _ _ _ _ _=>(AQ (BQ (BA K) BW (AD (pv 4)) (AC (DG (AA (AC (Ai (pv 5))) AE))))))))))
      (AH (Au [0,1,2,3,4,5] (Ao (Lw (pv 2))))))),BK (ms:=[false,false]) fun xs S hl=>match xs,hl with | [x0,x1],_=>Zm x0 x1 S⟩
variable (P w K mg base) in
abbrev XLRows:Prop:=Fx P w K mg base 2 "_law_rows" ["_law_count", "_law_length"] (ER K 2 [] (ups [false,false] true (Bx HV)))
abbrev Og:Stmt:=top 13
theorem Ew:FnScope ["_law_shape_here", "_law_one", "_law_other", "_law_things", "_law_deed", "_law_table", "_law_there", "_law_a", "_law_b", "_law_thing"] ["_law_shape_here", "_law_one", "_law_other", "_law_things"] (AS Og):=⟨rfl,rfl,rfl,by decide +kernel,rfl,by decide +kernel,by decide +kernel⟩
theorem Vk (F:Fun K "_law_keeps" "_law_keeps" Og f fd) (m_list:mg "list" = none) (m_range:mg "range" = none) (m_zip:mg "zip" = none):FnOk P w K mg base IJ 1 f fd ["_law_shape_here", "_law_one", "_law_other", "_law_things"] (ER K 4 [] (ups [false,false,false,false] true (As (BE Dz)))):=
  FD F Ew (by decide) (by decide) ⟨LJ,fun cdv A outer s H E hr=>(AF (CF (BJ (L3.op_neA hr) CH (AC (CU (js:=[9]) (by rfl) rfl (Bn (kx (AD (pv 1)) ki fun _ _=>rfl)) (fun _ _ _ _ _=>(AJ (i:=9) Ew.nd rfl (Or.inl rfl) (.inr rfl))) (Ay (by decide)) AI (fun _ _ _ _ _=>(kx (AD (pv 3)) (AD (pv 9)) fun _ _=>rfl)))) (AC (Aw (Gj K) Kz rfl m_list PyProof.Rows.Boot.«list» (AA (AC (kx (AD (pv 2)) ki fun _ _=>rfl)) AE))) (BH _)) (AH (Au [0,1,2,3,4,5,6,7,8,9] (Ao Ip))) BM)
      (AF (CG PassesOwn.never rfl (DU [4,5,6,7,8] (Tu rfl m_zip (AA (AC (kx (AD (pv 0)) ki fun _ _=>rfl)) (AA (AC (kx (AD (pv 1)) ki fun _ _=>rfl)) (AA (AC (kx (AD (pv 2)) ki fun _ _=>rfl)) AE))))) (Eg K (n:=3) rfl (BC (AJ (i:=4) Ew.nd rfl (Or.inl rfl)) (BC (AJ (i:=5) Ew.nd rfl (Or.inl rfl)) (BC (AJ (i:=6) Ew.nd rfl (Or.inl rfl)) Ef)))) (GR (BB AI (BB AI (BB AI Eb))) (BD (BD (BD Ei)))) (by decide) (Bw [4,5,6,7,8] (AH (CG PassesOwn.never rfl (DU [7,8] (BZ rfl m_range (AC (kx (AD (pv 1)) ki fun _ _=>rfl)))) (AJ (i:=7) Ew.nd rfl (Or.inl rfl)) AI (by decide) (Bw [7,8] (AF (CF (NM (Lv (BJ (L3.op_eqA hr) CH (AC (kx (AD (pv 4)) ki fun _ _=>rfl)) ki (BH _)) (Kx (BJ (L3.op_neA hr) CH (AC (kx (AD (pv 3)) (AC (kx (AD (pv 5)) (AD (pv 7)) fun _ _=>rfl)) fun _ _=>rfl)) (AC (kx (AD (pv 6)) (AC (kx (AD (pv 3)) (AD (pv 7)) fun _ _=>rfl)) fun _ _=>rfl)) (BH _))))) (AH (Au [0,1,2,3,4,5,6,7,8,9] (Ao Ip))) BM)
      (AH (CG PassesOwn.never rfl (DU [8] (BZ rfl m_range (AC (BQ EB FY (AC (kx (AD (pv 1)) ki fun _ _=>rfl)) (AC (BQ Sl Sf (AC (kx (AD (pv 4)) ki fun _ _=>rfl)) ki)))))) (AJ (i:=8) Ew.nd rfl (Or.inl rfl)) AI (by decide) (Bw [8] (AH (CF (BJ (L3.op_neA hr) CH (AC (kx (AD (pv 3)) (AC (kx (AC (kx (AD (pv 5)) (AD (pv 7)) fun _ _=>rfl)) (AD (pv 8)) fun _ _=>rfl)) fun _ _=>rfl)) (AC (kx (AC (kx (AD (pv 6)) (AC (kx (AD (pv 3)) (AD (pv 7)) fun _ _=>rfl)) fun _ _=>rfl)) (AC (kx (AD (pv 3)) (AD (pv 8)) fun _ _=>rfl)) fun _ _=>rfl)) (BH _)) (AH (Au [0,1,2,3,4,5,6,7,8,9] (Ao Ip))) BM)))))))))))
      (AH (Au [0,1,2,3,4,5,6,7,8,9] (Ao Ip))))),BK (ms:=[false,false,false,false]) fun xs S hl=>match xs,hl with | [x0,x1,x2,x3],_=>WH x0 x1 x2 x3 S⟩
variable (P w K mg base) in
abbrev XLKeeps:Prop:=Fx P w K mg base 1 "_law_keeps" ["_law_shape_here", "_law_one", "_law_other", "_law_things"] (ER K 4 [] (ups [false,false,false,false] true (As (BE Dz))))
abbrev Ij:Stmt:=top 16
theorem KQ:FnScope ["_law_shape_here", "_law_one", "_law_other", "_law_things"] ["_law_shape_here", "_law_one", "_law_other"] (AS Ij):=⟨rfl,rfl,rfl,by decide +kernel,rfl,by decide +kernel,by decide +kernel⟩
theorem PN (F:Fun K "_law_all_moves" "_law_all_moves" Ij f fd) (FLRows:XLRows P w K mg base) (FLKeeps:XLKeeps P w K mg base):FnOk P w K mg base IJ 3 f fd ["_law_shape_here", "_law_one", "_law_other"] (ER K 3 [] (ups [false,false,false] true (Ck CN))):=
 FD F KQ (by decide) (by decide) ⟨Gc,fun cdv A outer s H E hr=>(AH (Au [0,1,2,3] (Ao (bZ (js:=[3]) (by rfl) rfl (Bn (AY FLRows hr (by first | decide | omega) rfl (AA (AC (kx (AD (pv 2)) ki fun _ _=>rfl)) (AA (AC (kx (AD (pv 1)) ki fun _ _=>rfl)) AE)))) (fun _ _ _ _ _=>(AJ (i:=3) KQ.nd rfl (Or.inl rfl) (.inr rfl))) (Ay (by decide)) AI (fun _ _ _ _ _=>(ET (AC (Df FLKeeps hr (by first | decide | omega) rfl (AA (AD (pv 0)) (AA (AD (pv 1)) (AA (AD (pv 2)) (AA (AD (pv 3)) AE)))))) (fun _=>rfl))) (fun _ _ _ _ _=>(Ai (pv 3))))))),BK (ms:=[false,false,false]) fun xs S hl=>match xs,hl with | [x0,x1,x2],_=>QC x0 x1 x2 S⟩
variable (P w K mg base) in
abbrev XLAllMoves:Prop:=Fx P w K mg base 3 "_law_all_moves" ["_law_shape_here", "_law_one", "_law_other"] (ER K 3 [] (ups [false,false,false] true (Ck CN)))
abbrev HE:Stmt:=top 5
theorem GU:FnScope ["places", "here", "there", "things", "k", "thing"] ["places", "here", "there", "things"] (AS HE):=⟨rfl,rfl,rfl,by decide +kernel,rfl,by decide +kernel,by decide +kernel⟩
theorem IT {fTableLeads:Addr} {dfTableLeads:FuncData} (F_TableLeads:Fun K "table_leads" "table_leads" HE fTableLeads dfTableLeads) (mf_TableLeads:mg "table_leads" = some (.ref fTableLeads)) (bf_TableLeads:Binds K dfTableLeads ["places", "here", "there", "things"] []) (m_len:mg "len" = none) (m_enumerate:mg "enumerate" = none) (m_all:mg "all" = none):∀ n,FnOk P w K mg base IJ (n+1) fTableLeads dfTableLeads ["places", "here", "there", "things"] (ER K 4 [] (ups [false,false,false,false] false (As (BE (AZ n)))))
  | 0=>(by
      have nn:=Wg (ms:=[false,false,false,false]) (μ:=false) (F:=As (BE (AZ 0))) (fun xs=>by unfold As;split<;>simp only [BE,AZ,Option.map_none]);exact ⟨fun vs H Q E h=>(by obtain ⟨_,_,_,_,_,_,_,_,_,_,_,_,_,h,_⟩:=h;rw [nn] at h;cases h),fun A outer s H args us vs Q E hr e0 hb r h=>(by obtain ⟨_,_,_,_,_,_,_,_,_,_,_,_,_,h,_⟩:=h;rw [nn] at h;cases h)⟩)
  | n+1=>by
    obtain oTableLeads:=IT F_TableLeads mf_TableLeads bf_TableLeads m_len m_enumerate m_all n
    have FTableLeads:Fx P w K mg base (n+1) "table_leads" ["places", "here", "there", "things"] (ER K 4 [] (ups [false,false,false,false] false (As (BE (AZ n))))):=⟨fTableLeads,_,oTableLeads,mf_TableLeads,F_TableLeads.kp,bf_TableLeads⟩
    exact FD F_TableLeads GU (by decide) (by decide) ⟨(FN (ups [false,false,false,false] false (As (BE (AZ n))))),fun cdv A outer s H E hr=>(AF (CF (BJ (L3.op_eqA hr) CH (AD (pv 0)) ki (BH _)) (AH (Au [0,1,2,3,4,5] (Ao (AQ (Ox (nk (eP eU Cr (AD (pv 1)) (AC (BF (Bb K) Dg rfl m_len PySem.boot_len (AA (AD (pv 3)) AE))) (BH _)) (eO (eP (L3.op_eqA hr) CH (AC (kx (AD (pv 3)) (AD (pv 1)) fun _ _=>rfl)) (AD (pv 2)) (BH _))))))))) BM)
      (AH (Au [0,1,2,3,4,5] (Ao (AQ (Ox (BF (IG K) PD rfl m_all PyProof.Rows.Boot.«all» (AA (AC (CU (js:=[4,5]) (by rfl) rfl (Xf rfl m_enumerate (Ai (pv 3))) (fun _ _ _ _ _=>(Eg K (n:=2) rfl (BC (AJ (i:=4) GU.nd rfl (Or.inl rfl) (.inr rfl)) (BC (AJ (i:=5) GU.nd rfl (Or.inl rfl) (.inr rfl)) Ef)))) (Ud (IC (by decide) (IC (by decide) Ra))) (GR (BB AI (BB AI Eb)) (BD (BD Ei))) (fun _ _ _ _ _=>(Df FTableLeads hr (by first | decide | omega) rfl (AA (AC (BQ Sl Sf (AD (pv 0)) ki)) (AA (AC (kx (AD (pv 1)) (AD (pv 4)) fun _ _=>rfl)) (AA (AC (kx (AD (pv 2)) (AD (pv 5)) fun _ _=>rfl)) (AA (AD (pv 3)) AE)))))))) AE)))))))),BK (ms:=[false,false,false,false]) fun xs S hl=>match xs,hl with | [x0,x1,x2,x3],_=>NU n x0 x1 x2 x3 S⟩
variable (P w K mg base) in
abbrev XTableLeads:Prop:=Fx P w K mg base 201 "table_leads" ["places", "here", "there", "things"] (ER K 4 [] (ups [false,false,false,false] false (As (BE (AZ 200)))))
abbrev HF:Stmt:=top 4
theorem Cp:FnScope ["shape", "one", "other", "things", "here", "there", "deed"] ["shape", "one", "other", "things"] (AS HF):=⟨rfl,rfl,rfl,by decide +kernel,rfl,by decide +kernel,by decide +kernel⟩
theorem NN (F:Fun K "leads_alike" "leads_alike" HF f fd) (FTableLeads:XTableLeads P w K mg base) (m_len:mg "len" = none) (m_zip:mg "zip" = none):FnOk P w K mg base IJ 202 f fd ["shape", "one", "other", "things"] (ER K 4 [] (ups [false,false,false,false] true (As (BE Bh)))):=
  FD F Cp (by decide) (by decide) ⟨FO,fun cdv A outer s H E hr=>(AF (CG PassesOwn.never rfl (DU [4,5] (Tv rfl m_zip (AA (AC (kx (AD (pv 1)) ki fun _ _=>rfl)) (AA (AC (kx (AD (pv 2)) ki fun _ _=>rfl)) AE)))) (Eg K (n:=2) rfl (BC (AJ (i:=4) Cp.nd rfl (Or.inl rfl)) (BC (AJ (i:=5) Cp.nd rfl (Or.inl rfl)) Ef))) (GR (BB AI (BB AI Eb)) (BD (BD Ei))) (by decide) (Bw [4,5] (AH (CF (NM (Lv (BJ Nt Cr (AD (pv 4)) (AC (BF (Bb K) Dg rfl m_len PySem.boot_len (AA (AD (pv 3)) AE))) (BH _)) (Kx (BJ (L3.op_neA hr) CH (AC (kx (AD (pv 3)) (AD (pv 4)) fun _ _=>rfl)) (AD (pv 5)) (BH _))))) (AH (Au [0,1,2,3,4,5,6] (Ao Ip))) BM))))
      (AF (CG PassesOwn.never rfl (DU [4,5,6] (Tu rfl m_zip (AA (AC (kx (AD (pv 0)) ki fun _ _=>rfl)) (AA (AC (kx (AD (pv 1)) ki fun _ _=>rfl)) (AA (AC (kx (AD (pv 2)) ki fun _ _=>rfl)) AE))))) (Eg K (n:=3) rfl (BC (AJ (i:=6) Cp.nd rfl (Or.inl rfl)) (BC (AJ (i:=4) Cp.nd rfl (Or.inl rfl)) (BC (AJ (i:=5) Cp.nd rfl (Or.inl rfl)) Ef)))) (GR (BB AI (BB AI (BB AI Eb))) (BD (BD (BD Ei)))) (by decide) (Bw [4,5,6] (AH (CF (GX (ET (AC (Df FTableLeads hr (by first | decide | omega) rfl (AA (AC (kx (AD (pv 6)) ki fun _ _=>rfl)) (AA (AD (pv 4)) (AA (AD (pv 5)) (AA (AD (pv 3)) AE)))))) (fun _=>rfl))) (AH (Au [0,1,2,3,4,5,6] (Ao Ip))) BM))))
      (AH (Au [0,1,2,3,4,5,6] (Ao Ip))))),BK (ms:=[false,false,false,false]) fun xs S hl=>match xs,hl with | [x0,x1,x2,x3],_=>NV x0 x1 x2 x3 S⟩
variable (P w K mg base) in
abbrev XLeadsAlike:Prop:=Fx P w K mg base 202 "leads_alike" ["shape", "one", "other", "things"] (ER K 4 [] (ups [false,false,false,false] true (As (BE Bh))))
abbrev Oi:Stmt:=top 3
theorem Qj:FnScope ["shape", "one", "other", "things", "thing"] ["shape", "one", "other", "things"] (AS Oi):=⟨rfl,rfl,rfl,by decide +kernel,rfl,by decide +kernel,by decide +kernel⟩
theorem Vm (F:Fun K "is_move" "is_move" Oi f fd) (FLeadsAlike:XLeadsAlike P w K mg base) (m_len:mg "len" = none) (m_all:mg "all" = none):FnOk P w K mg base IJ 203 f fd ["shape", "one", "other", "things"] (ER K 4 [] (ups [false,false,false,false] true (As (BE EA)))):=
  FD F Qj (by decide) (by decide) ⟨LL,fun cdv A outer s H E hr=>(AF (CF (NM (Lu (BJ (L3.op_neA hr) CH (AC (BF (Bb K) Dg rfl m_len PySem.boot_len (AA (AD (pv 3)) AE))) (AC (kx (AD (pv 1)) ki fun _ _=>rfl)) (BH _)) (Jt (GX (ET (AC (BF (IG K) PD rfl m_all PyProof.Rows.Boot.«all» (AA (AC (CU (js:=[4]) (by rfl) rfl (Bn (Ai (pv 3))) (fun _ _ _ _ _=>(AJ (i:=4) Qj.nd rfl (Or.inl rfl) (.inr rfl))) (Ay (by decide)) AI (fun _ _ _ _ _=>(AQ (UA UC Xm Nt Cr ki (AD (pv 4)) (AC (kx (AD (pv 2)) ki fun _ _=>rfl))))))) AE))) (fun _=>rfl)))))) (AH (Au [0,1,2,3,4] (Ao Ip))) BM)
      (AH (Au [0,1,2,3,4] (Ao (Ox (Df FLeadsAlike hr (by first | decide | omega) rfl (AA (AD (pv 0)) (AA (AD (pv 1)) (AA (AD (pv 2)) (AA (AD (pv 3)) AE)))))))))),BK (ms:=[false,false,false,false]) fun xs S hl=>match xs,hl with | [x0,x1,x2,x3],_=>WJ x0 x1 x2 x3 S⟩
variable (P w K mg base) in
abbrev XIsMove:Prop:=Fx P w K mg base 203 "is_move" ["shape", "one", "other", "things"] (ER K 4 [] (ups [false,false,false,false] true (As (BE EA))))
abbrev GS:Stmt:=top 1
theorem Dy:FnScope ["tuples", "n", "longer", "things", "thing"] ["tuples", "n"] (AS GS):=⟨rfl,rfl,rfl,by decide +kernel,rfl,by decide +kernel,by decide +kernel⟩
theorem MD (F:Fun K "longer_by_one" "longer_by_one" GS f fd) (m_range:mg "range" = none):FnOk P w K mg base IJ 1 f fd ["tuples", "n"] (ER K 2 [] (ups [false,false] true (Bx Br))):=
  FD F Dy (by decide) (by decide) ⟨Eh,fun cdv A outer s H E hr=>(AF (Ac (i:=2) Dy.nd rfl (Or.inl rfl) (by decide) (FM AE))
      (AF (CG PassesOwn.never rfl (DU [3] (Bn (Ai (pv 0)))) (AJ (i:=3) Dy.nd rfl (Or.inr rfl)) AI (by decide) (Bw [3] (AH (De (Gr PySem.F.slot_list_extend PySem.F.type_list_extend Nv Nu (pv 2) (AA (AC (CU (js:=[4]) (by rfl) rfl (BZ rfl m_range (AD (pv 1))) (fun _ _ _ _ _=>(AJ (i:=4) Dy.nd rfl (Or.inl rfl) (.inr rfl))) (Ay (by decide)) AI (fun _ _ _ _ _=>(AQ (BQ (BA K) BW (AD (pv 3)) (AC (DG (AA (AC (Ai (pv 4))) AE)))))))) AE))))))
      (AH (Au [0,1,2,3,4] (Ao (Lw (pv 2))))))),BK (ms:=[false,false]) fun xs S hl=>match xs,hl with | [x0,x1],_=>Mc x0 x1 S⟩
variable (P w K mg base) in
abbrev XLongerByOne:Prop:=Fx P w K mg base 1 "longer_by_one" ["tuples", "n"] (ER K 2 [] (ups [false,false] true (Bx Br)))
abbrev SR:Stmt:=top 6
theorem JR:FnScope ["shape", "one", "other", "found", "k", "things"] ["shape", "one", "other"] (AS SR):=⟨rfl,rfl,rfl,by decide +kernel,rfl,by decide +kernel,by decide +kernel⟩
theorem YB (F:Fun K "moves" "moves" SR f fd) (FLongerByOne:XLongerByOne P w K mg base) (FLeadsAlike:XLeadsAlike P w K mg base) (m_range:mg "range" = none):FnOk P w K mg base IJ 203 f fd ["shape", "one", "other"] (ER K 3 [] (ups [false,false,false] true (Ck GW))):=
  FD F JR (by decide) (by decide) ⟨Pf,fun cdv A outer s H E hr=>(AF (Ac (i:=3) JR.nd rfl (Or.inl rfl) (by decide) (FM (AA (AC (AQ (DG AE))) AE)))
      (AF (CG PassesOwn.never rfl (DU [4] (BZ rfl m_range (AC (kx (AD (pv 1)) ki fun _ _=>rfl)))) (AJ (i:=4) JR.nd rfl (Or.inl rfl)) AI (by decide) (Bw [4] (AH (Xc (i:=3) JR.nd rfl (Or.inl rfl) (by decide) (js:=[5]) (by rfl) rfl (Bn (AY FLongerByOne hr (by first | decide | omega) rfl (AA (AC (Ai (pv 3))) (AA (AC (kx (AD (pv 2)) ki fun _ _=>rfl)) AE)))) (fun _ _ _ _ _=>(AJ (i:=5) JR.nd rfl (Or.inl rfl) (.inr rfl))) (Ay (by decide)) AI (fun _ _ _ _ _=>(ET (AC (Df FLeadsAlike hr (by first | decide | omega) rfl (AA (AD (pv 0)) (AA (AD (pv 1)) (AA (AD (pv 2)) (AA (AD (pv 5)) AE)))))) (fun _=>rfl))) (fun _ _ _ _ _=>(Ai (pv 5)))))))
      (AH (Au [0,1,2,3,4,5] (Ao (Lw (pv 3))))))),BK (ms:=[false,false,false]) fun xs S hl=>match xs,hl with | [x0,x1,x2],_=>Zk x0 x1 x2 S⟩
variable (P w K mg base) in
abbrev XMoves:Prop:=Fx P w K mg base 203 "moves" ["shape", "one", "other"] (ER K 3 [] (ups [false,false,false] true (Ck GW)))
abbrev Jn:Stmt:=top 21
theorem Dn:FnScope ["_law_feed_here", "_law_one", "_law_other", "_law_some", "_law_found", "_law_turn", "_law_row", "_law_k"] ["_law_feed_here", "_law_one", "_law_other", "_law_some"] (AS Jn):=⟨rfl,rfl,rfl,by decide +kernel,rfl,by decide +kernel,by decide +kernel⟩
theorem RB (F:Fun K "_law_strange" "_law_strange" Jn f fd) (FLTake:XLTake P w K mg base) (m_range:mg "range" = none) (m_len:mg "len" = none) (m_list:mg "list" = none) (m_tuple:mg "tuple" = none):FnOk P w K mg base IJ 2 f fd ["_law_feed_here", "_law_one", "_law_other", "_law_some"] (ER K 4 [0] (ups [true,false,false,false] true (HY CS))):=
  FD F Dn (by decide) (by decide) ⟨IA,fun cdv A outer s H E hr=>(AF (Ac (i:=4) Dn.nd rfl (Or.inl rfl) (by decide) (FM (AA (AC (AQ (DG AE))) (AA (AC (AQ (BQ L3.op_repT PB (AC (DG (AA (AC (AQ Bi)) AE))) (AC (BQ (BA K) BW (AC (kx (AD (pv 1)) ki fun _ _=>rfl)) ki))))) (AA (AC (AQ (BQ L3.op_repT PB (AC (DG (AA (AC (kx (AD (pv 2)) ki fun _ _=>rfl)) AE))) (AC (kx (AD (pv 1)) ki fun _ _=>rfl))))) (AA (AC (AQ (BQ L3.op_repT PB (AC (DG (AA (AC (AQ (bW OY Oz ki))) AE))) (AC (kx (AD (pv 1)) ki fun _ _=>rfl))))) AE))))))
      (AF (CG PassesOwn.never rfl (DU [5,6] (BZ rfl m_range ki)) (AJ (i:=5) Dn.nd rfl (Or.inl rfl)) AI (by decide) (Bw [5,6] (AF (Ky (i:=6) Dn.nd rfl (Or.inl rfl) (by decide) (js:=[7]) (by rfl) rfl (BZ rfl m_range (AC (kx (AD (pv 1)) ki fun _ _=>rfl))) (fun _ _ _ _ _=>(AJ (i:=7) Dn.nd rfl (Or.inl rfl) (.inr rfl))) (Ay (by decide)) AI (fun _ _ _ _ _=>(AQ (AY FLTake hr (by first | decide | omega) rfl (AA (AD (pv 0)) (AA (AC (kx (AD (pv 2)) ki fun _ _=>rfl)) AE))))))
      (AF (Au [] (CF (NM (Lv (BJ Qz Cr (AC (BF (Bb K) Dg rfl m_len PySem.boot_len (AA (AD (pv 3)) AE))) ki (BH _)) (Kx (BJ (L3.op_eqA hr) CH (AC (AY FLTake hr (by first | decide | omega) rfl (AA (AD (pv 0)) (AA (AC (AQ Bi)) AE)))) ki (BH _))))) (AH (Ac (i:=6) Dn.nd rfl (Or.inl rfl) (by decide) (Aw (Gj K) Kz rfl m_list PyProof.Rows.Boot.«list» (AA (AC (kx (AD (pv 3)) (AC (AY FLTake hr (by first | decide | omega) rfl (AA (AD (pv 0)) (AA (AC (AQ (BF (Bb K) Dg rfl m_len PySem.boot_len (AA (AD (pv 3)) AE)))) AE)))) fun _ _=>rfl)) AE)))) BM))
      (AF (Ey (AQ (BQ Sl Sf (AC (AY FLTake hr (by first | decide | omega) rfl (AA (AD (pv 0)) (AA (AC (AQ (BQ (BA K) BW (AC (kx (AD (pv 2)) ki fun _ _=>rfl)) ki))) AE)))) ki)) (pv 6) (AC (AY FLTake hr (by first | decide | omega) rfl (AA (AD (pv 0)) (AA (AC (kx (AD (pv 1)) ki fun _ _=>rfl)) AE)))))
      (AH (De (Gr PySem.F.slot_list_append PySem.F.type_list_append Ct Cs (pv 4) (AA (AC (AQ (Aw (An K) BR rfl m_tuple PyProof.Rows.Boot.«tuple» (AA (AD (pv 6)) AE)))) AE)))))))))
      (AH (Au [1,2,3,4,5,6,7] (Ao (Lw (pv 4))))))),BK (ms:=[true,false,false,false]) fun xs S hl=>match xs,hl with | [x0,x1,x2,x3],_=>Rr x0 x1 x2 x3 S⟩
variable (P w K mg base) in
abbrev XLStrange:Prop:=Fx P w K mg base 2 "_law_strange" ["_law_feed_here", "_law_one", "_law_other", "_law_some"] (ER K 4 [0] (ups [true,false,false,false] true (HY CS)))
abbrev Wz:Stmt:=top 22
theorem XN:FnScope ["_law_shape_here", "_law_one", "_law_other", "_law_row", "_law_thing"] ["_law_shape_here", "_law_one", "_law_other", "_law_row"] (AS Wz):=⟨rfl,rfl,rfl,by decide +kernel,rfl,by decide +kernel,by decide +kernel⟩
theorem cI (F:Fun K "_law_due" "_law_due" Wz f fd) (FLKeeps:XLKeeps P w K mg base) (m_len:mg "len" = none) (m_all:mg "all" = none):FnOk P w K mg base IJ 2 f fd ["_law_shape_here", "_law_one", "_law_other", "_law_row"] (ER K 4 [] (ups [false,false,false,false] true (As (BE IQ)))):=
  FD F XN (by decide) (by decide) ⟨UT,fun cdv A outer s H E hr=>(AF (CF (NM (Lu (BJ (L3.op_neA hr) CH (AC (BF (Bb K) Dg rfl m_len PySem.boot_len (AA (AD (pv 3)) AE))) (AC (kx (AD (pv 1)) ki fun _ _=>rfl)) (BH _)) (Jt (GX (ET (AC (BF (IG K) PD rfl m_all PyProof.Rows.Boot.«all» (AA (AC (CU (js:=[4]) (by rfl) rfl (Bn (Ai (pv 3))) (fun _ _ _ _ _=>(AJ (i:=4) XN.nd rfl (Or.inl rfl) (.inr rfl))) (Ay (by decide)) AI (fun _ _ _ _ _=>(AQ (UA UC Xm Nt Cr ki (AD (pv 4)) (AC (kx (AD (pv 2)) ki fun _ _=>rfl))))))) AE))) (fun _=>rfl)))))) (AH (Au [0,1,2,3,4] (Ao Ip))) BM)
      (AH (Au [0,1,2,3,4] (Ao (Ox (Df FLKeeps hr (by first | decide | omega) rfl (AA (AD (pv 0)) (AA (AD (pv 1)) (AA (AD (pv 2)) (AA (AD (pv 3)) AE)))))))))),BK (ms:=[false,false,false,false]) fun xs S hl=>match xs,hl with | [x0,x1,x2,x3],_=>cu x0 x1 x2 x3 S⟩
variable (P w K mg base) in
abbrev XLDue:Prop:=Fx P w K mg base 2 "_law_due" ["_law_shape_here", "_law_one", "_law_other", "_law_row"] (ER K 4 [] (ups [false,false,false,false] true (As (BE IQ))))
abbrev Od:Stmt:=top 23
theorem Lq:FnScope ["_law_rows_here", "_law_row", "_law_k"] ["_law_rows_here"] (AS Od):=⟨rfl,rfl,rfl,by decide +kernel,rfl,by decide +kernel,by decide +kernel⟩
theorem Vh (F:Fun K "_law_whole" "_law_whole" Od f fd) (m_tuple:mg "tuple" = none) (m_isinstance:mg "isinstance" = none) (m_int:mg "int" = none) (m_bool:mg "bool" = none) (m_all:mg "all" = none):FnOk P w K mg base IJ 1 f fd ["_law_rows_here"] (ER K 1 [] (ups [false] true (FA (MH FK)))):=
  FD F Lq (by decide) (by decide) ⟨LG,fun cdv A outer s H E hr=>(AF (CG PassesOwn.never rfl (DU [1] (Bn (Ai (pv 0)))) (AJ (i:=1) Lq.nd rfl (Or.inl rfl)) AI (by decide) (Bw [1] (AH (CF (NM (Lu (GX (ET (AC (BF (Dw K) Iq rfl m_isinstance PyProof.Rows.Boot.«isinstance» (AA (AD (pv 1)) (AA (AC (Se (GY (v:=.ty "tuple") rfl m_tuple PyProof.Rows.Boot.«tuple» rfl))) AE)))) (fun _=>rfl))) (Jt (GX (ET (AC (BF (IG K) PD rfl m_all PyProof.Rows.Boot.«all» (AA (AC (CU (js:=[2]) (by rfl) rfl (Bn (Ai (pv 1))) (fun _ _ _ _ _=>(AJ (i:=2) Lq.nd rfl (Or.inl rfl) (.inr rfl))) (Ay (by decide)) AI (fun _ _ _ _ _=>(AQ (lN (BF (Dw K) Iq rfl m_isinstance PyProof.Rows.Boot.«isinstance» (AA (AD (pv 2)) (AA (AC (Se (GY (v:=.ty "int") rfl m_int PyProof.Rows.Boot.«int» rfl))) AE))) (eO (lM (BF (Dw K) Iq rfl m_isinstance PyProof.Rows.Boot.«isinstance» (AA (AD (pv 2)) (AA (AC (Se (GY (v:=.ty "bool") rfl m_bool PyProof.Rows.Boot.«bool» rfl))) AE)))))))))) AE))) (fun _=>rfl)))))) (AH (Au [0,1,2] (Ao Ip))) BM))))
      (AH (Au [0,1,2] (Ao Ip)))),BK (ms:=[false]) fun xs S hl=>match xs,hl with | [x0],_=>WD x0 S⟩
variable (P w K mg base) in
abbrev XLWhole:Prop:=Fx P w K mg base 1 "_law_whole" ["_law_rows_here"] (ER K 1 [] (ups [false] true (FA (MH FK))))
abbrev VN:Stmt:=top 25
theorem Dl:FnScope ["_law_script", "_law_feed_here", "_law_k", "_law_shape_here", "_law_one", "_law_other", "_law_some", "_law_row", "_law_due_here", "_law_turn", "_law_found"] ["_law_script"] (AS VN):=⟨rfl,rfl,rfl,by decide +kernel,rfl,by decide +kernel,by decide +kernel⟩
theorem iu (F:Fun K "law" "law" VN f fd) (FLFeed:XLFeed P w K mg base) (FLTake:XLTake P w K mg base) (FLShape:XLShape P w K mg base) (FLGreat:XLGreat P w K mg base) (FIsMove:XIsMove P w K mg base) (FLDue:XLDue P w K mg base) (FLTwoWorlds:XLTwoWorlds P w K mg base) (FLAllMoves:XLAllMoves P w K mg base) (FMoves:XMoves P w K mg base) (FLWhole:XLWhole P w K mg base) (FLStrange:XLStrange P w K mg base) (m_bool:mg "bool" = none) (m_isinstance:mg "isinstance" = none) (m_list:mg "list" = none) (m_range:mg "range" = none):FnOk P w K mg base IJ 204 f fd ["_law_script"] (ER K 1 [] (ups [false] true (FA VT))):=
  FD F Dl (by decide) (by decide) ⟨cV,fun cdv A outer s H E hr=>(AF (Ac (i:=1) Dl.nd rfl (Or.inl rfl) (by decide) (AY FLFeed hr (by first | decide | omega) rfl (AA (AC (Ai (pv 0))) (AA (AC (AQ Bi)) AE))))
      (AF (Au [3,4,5,6,7,10] (CF (BJ (L3.op_eqA hr) CH (AC (AY FLTake hr (by first | decide | omega) rfl (AA (AD (pv 1)) (AA (AC (AQ Bi)) AE)))) ki (BH _)) (AF (Ac (i:=3) Dl.nd rfl (Or.inl rfl) (by decide) (AQ (AY FLShape hr (by first | decide | omega) rfl (AA (AD (pv 1)) AE))))
      (AF (Xe (AY FLGreat hr (by first | decide | omega) rfl (AA (AD (pv 1)) (AA (AC (Ai (pv 3))) AE))) (Eg K (n:=3) rfl (BC (AJ (i:=4) Dl.nd rfl (Or.inl rfl)) (BC (AJ (i:=5) Dl.nd rfl (Or.inl rfl)) (BC (AJ (i:=6) Dl.nd rfl (Or.inl rfl)) Ef)))) (GR (BB AI (BB AI (BB AI Eb))) (BD (BD (BD Ei)))) (by decide))
      (AH (CG PassesOwn.never rfl (DU [7,10] (Bn (Ai (pv 6)))) (AJ (i:=7) Dl.nd rfl (Or.inl rfl)) AI (by decide) (Bw [7,10] (AF (Ac (i:=10) Dl.nd rfl (Or.inl rfl) (by decide) (Df FIsMove hr (by first | decide | omega) rfl (AA (AD (pv 3)) (AA (AD (pv 4)) (AA (AD (pv 5)) (AA (AD (pv 7)) AE))))))
      (AH (CF (NM (Lu (GX (ET (AC (BF (Dw K) Iq rfl m_isinstance PyProof.Rows.Boot.«isinstance» (AA (AD (pv 10)) (AA (AC (Se (GY (v:=.ty "bool") rfl m_bool PyProof.Rows.Boot.«bool» rfl))) AE)))) (fun _=>rfl))) (Jt (BJ (L3.op_neA hr) CH (AD (pv 10)) (AC (Df FLDue hr (by first | decide | omega) rfl (AA (AD (pv 3)) (AA (AD (pv 4)) (AA (AD (pv 5)) (AA (AD (pv 7)) AE)))))) (BH _))))) (AH (Au [0,1,2,3,4,5,6,7,8,9,10] (Ao Ip))) BM)))))))) BM))
      (AF (CG PassesOwn.never rfl (DU [1,2,3,4,5,7,8,9,10] (bV rfl m_range ki ki)) (AJ (i:=2) Dl.nd rfl (Or.inl rfl)) AI (by decide) (Bw [1,2,3,4,5,7,8,9,10] (AF (Ac (i:=1) Dl.nd rfl (Or.inl rfl) (by decide) (AY FLFeed hr (by first | decide | omega) rfl (AA (AC (Ai (pv 0))) (AA (AC (Ai (pv 2))) AE))))
      (AF (Ac (i:=3) Dl.nd rfl (Or.inl rfl) (by decide) (AQ (AY FLShape hr (by first | decide | omega) rfl (AA (AD (pv 1)) AE))))
      (AF (Xe (AY FLTwoWorlds hr (by first | decide | omega) rfl (AA (AD (pv 1)) (AA (AC (Ai (pv 3))) AE))) (Eg K (n:=2) rfl (BC (AJ (i:=4) Dl.nd rfl (Or.inl rfl)) (BC (AJ (i:=5) Dl.nd rfl (Or.inl rfl)) Ef))) (GR (BB AI (BB AI Eb)) (BD (BD Ei))) (by decide))
      (AF (Ac (i:=8) Dl.nd rfl (Or.inl rfl) (by decide) (AQ (AY FLAllMoves hr (by first | decide | omega) rfl (AA (AC (Ai (pv 3))) (AA (AC (Ai (pv 4))) (AA (AC (Ai (pv 5))) AE))))))
      (AF (CG PassesOwn.never rfl (DU [9,10] (BZ rfl m_range ki)) (AJ (i:=9) Dl.nd rfl (Or.inl rfl)) AI (by decide) (Bw [9,10] (AF (Ac (i:=10) Dl.nd rfl (Or.inl rfl) (by decide) (AY FMoves hr (by first | decide | omega) rfl (AA (AC (Ai (pv 3))) (AA (AC (Ai (pv 4))) (AA (AC (Ai (pv 5))) AE)))))
      (AF (CF (NM (Lu (GX (ET (AC (BF (Dw K) Iq rfl m_isinstance PyProof.Rows.Boot.«isinstance» (AA (AD (pv 10)) (AA (AC (Se (GY (v:=.ty "list") rfl m_list PyProof.Rows.Boot.«list» rfl))) AE)))) (fun _=>rfl))) (Lu (BJ (L3.op_neA hr) CH (AD (pv 10)) (AD (pv 8)) (BH _)) (Jt (GX (ET (AC (Df FLWhole hr (by first | decide | omega) rfl (AA (AD (pv 10)) AE))) (fun _=>rfl))))))) (AH (Au [0,1,2,3,4,5,6,7,8,9,10] (Ao Ip))) BM)
      (AH (De (Gr PySem.F.slot_list_append PySem.F.type_list_append Ct Cs (pv 10) (AA (AC (AQ (DG AE))) AE))))))))
      (AH (CG PassesOwn.never rfl (DU [7,10] (Bn (BQ (BA K) BW (AC (Tw (AD (pv 8)) ki)) (AC (AY FLStrange hr (by first | decide | omega) rfl (AA (AD (pv 1)) (AA (AC (Ai (pv 4))) (AA (AC (Ai (pv 5))) (AA (AC (Ai (pv 8))) AE))))))))) (AJ (i:=7) Dl.nd rfl (Or.inl rfl)) AI (by decide) (Bw [7,10] (AF (Ac (i:=10) Dl.nd rfl (Or.inl rfl) (by decide) (Df FIsMove hr (by first | decide | omega) rfl (AA (AD (pv 3)) (AA (AD (pv 4)) (AA (AD (pv 5)) (AA (AD (pv 7)) AE))))))
      (AH (CF (NM (Lu (GX (ET (AC (BF (Dw K) Iq rfl m_isinstance PyProof.Rows.Boot.«isinstance» (AA (AD (pv 10)) (AA (AC (Se (GY (v:=.ty "bool") rfl m_bool PyProof.Rows.Boot.«bool» rfl))) AE)))) (fun _=>rfl))) (Jt (BJ (L3.op_neA hr) CH (AD (pv 10)) (AC (Df FLDue hr (by first | decide | omega) rfl (AA (AD (pv 3)) (AA (AD (pv 4)) (AA (AD (pv 5)) (AA (AD (pv 7)) AE)))))) (BH _))))) (AH (Au [0,1,2,3,4,5,6,7,8,9,10] (Ao Ip))) BM)))))))))))))
      (AH (Au [0,1,2,3,4,5,6,7,8,9,10] (Ao Ip)))))),BK (ms:=[false]) fun xs S hl=>match xs,hl with | [x0],_=>jY x0 S⟩
end
end My
set_option maxHeartbeats 1000000
namespace Q
open PySem L2
def Fd (x:Dv):Prop:=∃ a b:Int,x=.lst [.int a,.int b]
def Tx (N:Nat) (x:Dv):Prop:=∃ l,x=.str l/\l.length<=N/\∀ c∈l,c < 128
theorem Tx.mono {N M:Nat} {x:Dv} (h:Tx N x) (le:N<=M):Tx M x:=let ⟨l,e,h1,h2⟩:=h;⟨l,e,Nat.le_trans h1 le,h2⟩
section
variable {γ τ ρ:Type}
theorem Eo (g:Dv->γ->Option (Dv×γ)) (P:γ->Prop) (R:Dv->Prop):∀ (xs:List Dv) (c:γ),P c->(∀ x∈xs,∀ c,P c->∃ d c',g x c=some (d,c')/\R d/\P c')->∃ ds c',CM g xs c=some (ds,c')/\ds.length=xs.length/\(∀ d∈ds,R d)/\P c'
 | [],c,hc,_=>⟨[],c,rfl,rfl,fun _ z=>(List.not_mem_nil z).elim,hc⟩
 | x::xs,c,hc,h=>by
  obtain ⟨d,c1,e1,r1,p1⟩:=h x List.mem_cons_self c hc;obtain ⟨ds,c2,e2,l2,r2,p2⟩:=Eo g P R xs c1 p1 fun y hy=>h y (List.mem_cons_of_mem _ hy)
  refine ⟨d::ds,c2,by simp only [CM,e1,e2,Option.bind_some],by rw [List.length_cons,List.length_cons,l2],fun y hy=>?_,p2⟩;rcases List.mem_cons.mp hy with rfl | hy
  ·exact r1
  ·exact r2 y hy
theorem Jc (g:Dv->γ->Option γ) (I:Nat->γ->Prop):∀ (xs:List Dv) (k:Nat) (c:γ),I k c->(∀ i x,xs[i]?=some x->∀ c,I (k+i) c->∃ c',g x c=some c'/\I (k+i+1) c')->∃ c',Cm g xs c=some c'/\I (k+xs.length) c'
 | [],k,c,hc,_=>⟨c,rfl,hc⟩
 | x::xs,k,c,hc,h=>by
  obtain ⟨c1,e1,i1⟩:=h 0 x rfl c hc;obtain ⟨c2,e2,i2⟩:=Jc g I xs (k+1) c1 i1 fun i y hy c hc=>by
   have:=h (i+1) y hy c (by rw [show k+(i+1)=k+1+i by omega];exact hc);rw [show k+(i+1)+1=k+1+i+1 by omega] at this;exact this
  exact ⟨c2,by simp only [Cm,e1,e2,Option.bind_some],by rw [List.length_cons,show k+(xs.length+1)=k+1+xs.length by omega];exact i2⟩
theorem GH (g:Dv->Option Dv) (R:Dv->Prop):∀ (xs:List Dv),(∀ x∈xs,∃ d,g x=some d/\R d)->∃ ds,Cv g xs=some ds/\ds.length=xs.length/\∀ d∈ds,R d
 | [],_=>⟨[],rfl,rfl,fun _ z=>by cases z⟩
 | x::xs,h=>by
  obtain ⟨d,e1,r1⟩:=h x List.mem_cons_self;obtain ⟨ds,e2,l2,r2⟩:=GH g R xs fun y hy=>h y (List.mem_cons_of_mem _ hy)
  refine ⟨d::ds,by simp only [Cv,e1,e2,Option.bind_some],by rw [List.length_cons,List.length_cons,l2],fun y hy=>?_⟩;rcases List.mem_cons.mp hy with rfl | hy
  ·exact r1
  ·exact r2 y hy
theorem ID (g:Dv->γ->Option (Lp τ γ ρ)) (c:γ):∀ (xs:List Dv),(∀ x∈xs,g x c=some (.go c))->EX g xs c=some (.go c)
 | [],_=>rfl
 | x::xs,h=>by simp only [EX,h x List.mem_cons_self,Option.bind_some];exact ID g c xs fun y hy=>h y (List.mem_cons_of_mem _ hy)
theorem Ja (g:Dv->Unit->Option (Lp τ Unit ρ)) (p:Dv->Bool) (d:τ) (r:ρ):∀ (xs:List Dv),(∀ x∈xs,g x ()=some (if p x=true then .rt d r else .go ()))->EX g xs ()=some (if xs.any p=true then .rt d r else .go ())
 | [],_=>rfl
 | x::xs,h=>by
  have ih:=Ja g p d r xs fun y hy=>h y (List.mem_cons_of_mem _ hy)
  simp only [EX,h x List.mem_cons_self,Option.bind_some,List.any_cons]
  by_cases q:p x=true
  ·simp [q]
  ·simp only [q,Bool.false_eq_true,if_false,Bool.false_or];simpa using ih
theorem CK {α:Type} {xs:List Dv} {o:Option α} (h:xs.length<=1000000):Gu xs o=o:=by unfold Gu;rw [if_pos h]
end
theorem atI_nat {α:Type} (xs:List α) (i:Nat) (h:i < xs.length):Gy xs (i:Int)=some xs[i]:=by
 unfold Gy Qb;rw [if_pos (by omega),if_pos (by omega)];simp [h]
theorem LQ {α:Type} {xs:List α} {i:Int} (h0:0<=i) (h:i < xs.length):∃ x∈xs,Gy xs i=some x:=by
 obtain ⟨n,rfl⟩:∃ n:Nat,i=n:=⟨i.toNat,by omega⟩;exact ⟨xs[n]'(by omega),List.getElem_mem _,atI_nat xs n (by omega)⟩
theorem SG {xs:List Dv} {i:Int} (h0:0<=i) (h:i < xs.length):∃ x∈xs,AN (.lst xs) (.int i)=some x:=LQ h0 h
theorem gM {xs:List Dv} {i:Int} (h0:0<=i) (h:i < xs.length):∃ x∈xs,AN (.tup xs) (.int i)=some x:=LQ h0 h
theorem mq {l:List Nat} {i:Int} (h0:0<=i) (h:i < l.length) (hl:l.length<=1000000):∃ c∈l,AN (.str l) (.int i)=some (.str [c]):=by
 obtain ⟨c,hc,e⟩:=LQ h0 h;exact ⟨c,hc,by simp only [AN,if_pos hl,e,Option.map_some]⟩
theorem Hr {n:Int} (h0:-1000000000<=n) (h:n<=1000000000):BY (.int n)=some ((List.range n.toNat).map fun k=>.int (k:Nat)):=by
 have:small n=true:=by unfold small;simp [h0,h]
 simp only [BY,this,if_true]
theorem Jj {α:Type} {xs:List α} {lo hi:Option Int} {x:α} (h:x∈Dj xs lo hi):x∈xs:=List.mem_of_mem_drop (List.mem_of_mem_take h)
theorem LN {α:Type} (xs:List α) (lo hi:Option Int):(Dj xs lo hi).length<=xs.length:=by
 unfold Dj;rw [List.length_take,List.length_drop];omega
theorem QD (l:List Nat) (lo hi:Option Int):TQ l lo hi=Dj l lo hi:=rfl
theorem Ie:∀ ls:List (List Nat),DX (ls.map Dv.str)=true
 | []=>rfl
 | x::xs=>by simp only [List.map_cons,DX,Dv.cmp,Ie xs,Bool.and_self]
theorem Ic:∀ ls:List (List Nat),DW (ls.map Dv.str)=0
 | []=>rfl
 | x::xs=>by simp only [List.map_cons,DW,Dv.dep,Ic xs];rfl
theorem Jy (x:List Nat):∀ ls:List (List Nat),MF (.str x) (ls.map Dv.str)=ls.contains x
 | []=>rfl
 | y::ys=>by
  have:=Jy x ys;simp only [MF] at this;simp only [MF,List.map_cons,List.any_cons,this,List.contains_cons,eqV]
  by_cases e:y=x
  ·subst e;simp
  ·have e2:¬ x=y:=fun z=>e z.symm
   have h1:(y == x)=false:=by simpa using e
   have h2:(x == y)=false:=by simpa using e2
   rw [h1,h2]
theorem mh (neg:Bool) (x:List Nat) (ls:List (List Nat)):SA neg (.str x) (.lst (ls.map Dv.str))=some (if neg=true then !ls.contains x else ls.contains x):=by
 simp only [SA,ax,Dv.cmp,Ie,Ic,Bool.and_self,Nat.zero_le,decide_true,if_true,Jy]
theorem WV (neg:Bool) (x:List Nat) (ls:List (List Nat)):SA neg (.str x) (.tup (ls.map Dv.str))=some (if neg=true then !ls.contains x else ls.contains x):=by
 simp only [SA,ax,Dv.cmp,Ie,Ic,Bool.and_self,Nat.zero_le,decide_true,if_true,Jy]
theorem GO (i j:Int):Bm (.int i) (.int j)=some (.int (i+j)):=rfl
theorem NG (i j:Int) (h:0 < j):GN (.int i) (.int j)=some (.int (i % j)):=by simp only [GN,Gz,h,decide_true,if_true]
theorem CC (i j:Int):WW (.int i) (.int j)=some (decide (i=j)):=by
 simp only [SB,Dv.cmp,Dv.dep,Bool.and_self,Nat.zero_le,decide_true,if_true,eqV,Bool.false_eq_true,if_false];congr 1
theorem LP (i j:Int):WU (.int i) (.int j)=some (!decide (i=j)):=by
 simp only [SB,Dv.cmp,Dv.dep,Bool.and_self,Nat.zero_le,decide_true,if_true,eqV];congr 1
theorem Tx.cut {N:Nat} {x:Dv} (h:Tx N x) (hN:N<=1000000) (lo hi:Option Int):∃ y,ab lo hi x=some y/\Tx N y:=by
 obtain ⟨l,rfl,h1,h2⟩:=h;exact ⟨.str (TQ l lo hi),by simp only [ab,if_pos (Nat.le_trans h1 hN)],_,rfl,by rw [QD];exact Nat.le_trans (LN _ _ _) h1,fun c hc=>h2 c (Jj (by rw [<- QD];exact hc))⟩
theorem Tx.add {N M:Nat} {x y:Dv} (h:Tx N x) (h':Tx M y) (hN:N+M<=1000000):∃ z,Bm x y=some z/\Tx (N+M) z:=by
 obtain ⟨l,rfl,h1,h2⟩:=h;obtain ⟨l',rfl,h1',h2'⟩:=h';refine ⟨.str (l++l'),by simp only [Bm,if_pos (show l.length+l'.length<=1000000 by omega)],_,rfl,by rw [List.length_append];omega,fun c hc=>?_⟩;rcases List.mem_append.mp hc with hc | hc
 ·exact h2 c hc
 ·exact h2' c hc
theorem gX {c:Nat} (h:c < 128):PyProof.Rows.up1 c < 128:=by
 unfold PyProof.Rows.up1;split<;>omega
theorem Tx.upper {N:Nat} {x:Dv} (h:Tx N x) (hN:N<=1000000):∃ y,Hq x=some y/\Tx N y:=by
 obtain ⟨l,rfl,h1,h2⟩:=h;have e:(l.all (fun c=>decide (c < 128)) && decide (l.length<=1000000))=true:=by
  rw [Bool.and_eq_true];exact ⟨List.all_eq_true.mpr fun c hc=>decide_eq_true (h2 c hc),decide_eq_true (Nat.le_trans h1 hN)⟩
 refine ⟨.str (l.map PyProof.Rows.up1),by simp only [Hq,e,if_true],_,rfl,by rw [List.length_map];exact h1,fun c hc=>?_⟩;obtain ⟨d,hd,rfl⟩:=List.mem_map.mp hc;exact gX (h2 d hd)
theorem Sy:∀ {xs:List Dv},(∀ x∈xs,∃ c,x=.str [c]/\c < 128)->xs.length<=1000->∃ z,Jm (.str []) (.lst xs)=some z/\Tx xs.length z:=by
 intro xs h hl;have:∃ cs:List Nat,xs=(cs.map fun c=>[c]).map Dv.str/\∀ c∈cs,c < 128:=by
  clear hl
  induction xs with
  | nil=>exact ⟨[],rfl,fun _ z=>by cases z⟩
  | cons x xs ih =>
   obtain ⟨cs,e,h2⟩:=ih fun y hy=>h y (List.mem_cons_of_mem _ hy)
   obtain ⟨c,rfl,hc⟩:=h x List.mem_cons_self;refine ⟨c::cs,by rw [e];rfl,fun d hd=>?_⟩;rcases List.mem_cons.mp hd with rfl | hd
   ·exact hc
   ·exact h2 d hd
 obtain ⟨cs,e,h2⟩:=this;have hlen:xs.length=cs.length:=by rw [e];simp
 have hj:∀ cs:List Nat,jn [] (cs.map fun c=>[c])=cs:=by
  intro cs;cases cs with
  | nil=>rfl
  | cons a b =>
   show [a]++((b.map fun c=>[c]).flatMap fun y=>[]++y)=a::b;have:∀ b:List Nat,((b.map fun c=>[c]).flatMap fun y=>[]++y)=b:=by
    intro b
    induction b with
    | nil=>rfl
    | cons x y ih=>simp only [List.map_cons,List.flatMap_cons,ih];rfl
   rw [this];rfl
 have hs:((cs.map fun c=>[c]).map List.length).sum=cs.length:=by
  clear e h2 hlen
  induction cs with
  | nil=>rfl
  | cons a b ih=>rw [List.map_cons,List.map_cons,List.sum_cons,ih];simp;omega
 rw [e];refine ⟨.str cs,?_,cs,rfl,by simp,h2⟩;simp only [Jm,VG,hj];rw [if_pos (by rw [hs];simp;omega)]
end Q
set_option maxHeartbeats 1000000
namespace My
open PySem L2 Q
theorem Ah {f:Dv} (hf:Fd f) {n:Int} (h0:0 < n) (h1:n < 1073741824):∃ (r:Nat) (f':Dv),AL f (.int n)=some (.int r,f')/\(r:Int) < n/\Fd f':=by
 obtain ⟨a,b,rfl⟩:=hf;have i0:∀ x y:Dv,AN (.lst [x,y]) (.int 0)=some x:=fun _ _=>rfl
 have i1:∀ x y:Dv,AN (.lst [x,y]) (.int 1)=some y:=fun _ _=>rfl
 have s0:∀ x y d:Dv,CL (.lst [x,y]) (.int 0) d=some (.lst [d,y]):=fun _ _ _=>rfl
 have s1:∀ x y d:Dv,CL (.lst [x,y]) (.int 1) d=some (.lst [x,d]):=fun _ _ _=>rfl
 have m:∀ x:Int,∃ r:Nat,x % n=r/\(r:Int) < n:=fun x=>⟨(x % n).toNat,by have:=Int.emod_nonneg x (show n≠0 by omega);omega,by have:=Int.emod_nonneg x (show n≠0 by omega);have:=Int.emod_lt_of_pos x h0;omega⟩
 have big1:big 48271=true:=by decide
 have big2:big 40692=true:=by decide
 have big3:big 2147483647=true:=by decide
 unfold AL;simp only [i0,Option.bind_some,FI]
 by_cases h:0 < a
 ·obtain ⟨r,e,hr⟩:=m a;refine ⟨r,.lst [.int (a / n),.int b],?_,hr,a / n,b,rfl⟩;simp only [h,decide_true,if_true,GN,dG,Gz,h0,h1,Bool.and_self,Option.bind_some,i0,s0,e]
 ·simp only [h,decide_false,Bool.false_eq_true,if_false,i1,s1,Fj,big1,big2,big3,Bool.or_true,if_true,Option.bind_some,GN,dG,Gz,Bm,h0,decide_true,show (0:Int) < 2147483647 by decide,show (0:Int) < 2147483399 by decide,show (0:Int) < 8191 by decide,show (8191:Int) < 1073741824 by decide,Bool.and_self];obtain ⟨r,e,hr⟩:=m (((b * 48271 % 2147483647) * 2147483647+((b * 48271 % 2147483647 * 40692+30103) % 2147483399+1)) / 8191);exact ⟨r,_,by rw [e],hr,_,_,rfl⟩
theorem OK {ns:List Int} {k:Nat}:∃ f,ES (.scr ns) (.int k)=some f/\Fd f:=by
 have b1:big 7907=true:=by decide
 have b2:big 2147483629=true:=by decide
 have b3:big 31=true:=by decide
 have b4:big 48271=true:=by decide
 have b5:big 40692=true:=by decide
 have c1:∃ c:Int,HL (.scr ns) (.int k) (.int (7907 * k+13579))=some (.int c):=by
  unfold HL;simp only [Dx,Option.bind_some,FI]
  by_cases h:(k:Int) < ns.length
  ·simp only [h,decide_true,if_true,AN,atI_nat ns k (by omega),Option.map_some,Option.bind_some];exact ⟨_,rfl⟩
  ·simp only [h,decide_false,Bool.false_eq_true,if_false]
   by_cases h2:0 < (ns.length:Int)
   ·have e:=Int.emod_nonneg (k:Int) (show (ns.length:Int)≠0 by omega);have e':=Int.emod_lt_of_pos (k:Int) h2;obtain ⟨x,_,ex⟩:=LQ e e';simp only [h2,decide_true,if_true,GN,Gz,Option.bind_some,AN,ex,Option.map_some,Fj,b1,b3,Bool.true_or,Bool.or_true,Bm,show (0:Int) < 2147483629 by decide];exact ⟨_,rfl⟩
   ·simp only [h2,decide_false,Bool.false_eq_true,if_false];exact ⟨_,rfl⟩
 obtain ⟨c,e⟩:=c1;have c2:∃ d:Int,HK (.int c) (.int 0)=some (.int d):=by
  unfold HK;simp only [mm,Gz,show (decide ((0:Int)<=18) && decide ((18:Int)<=1000000) && decide ((10:Int).natAbs < 2 ^ 64))=true by decide,if_true,Option.bind_some,FI];split<;>exact ⟨_,rfl⟩
 obtain ⟨d,e2⟩:=c2;unfold ES;simp only [Fj,b1,b4,b5,Bool.true_or,Bool.or_true,if_true,Option.bind_some,Bm,e,e2,GN,Gz,show (0:Int) < 2147483629 by decide,show (0:Int) < 2147483646 by decide,decide_true];exact ⟨_,rfl,_,_,rfl⟩
noncomputable abbrev kP:List Nat:=[97,98,99,100,101,102,103,104,105,106,107,108,109,110,111,112,113,114,115,116,117,118,119,120,121,122]
theorem ju:∀ c∈kP,c < 128:=by decide
theorem Yo {i:Int} (h0:0<=i) (h:i < 26):∃ c,AN (.str kP) (.int i)=some (.str [c])/\c < 128:=by
 obtain ⟨c,hc,e⟩:=mq (l:=kP) h0 (show i < ((26:Nat):Int) by omega) (by decide);exact ⟨c,e,ju c hc⟩
theorem Oq {c:Nat} (h:c < 128):Tx 1 (.str [c]):=⟨[c],rfl,by simp,fun d hd=>by rw [List.mem_singleton] at hd;subst hd;exact h⟩
theorem VQ {f:Dv} (hf:Fd f) (xs:List Dv) (hl:xs.length<=1000):∃ z f',(∃ ds,Gu xs (CM (El (.str kP)) xs f)=some (ds,f')/\Jm (.str []) (.lst ds)=some z)/\Tx xs.length z/\Fd f':=by
 obtain ⟨ds,f',e,hl2,hd,hf'⟩:=Eo (El (.str kP)) Fd (fun d=>∃ c,d=.str [c]/\c < 128) xs f hf fun x _ c hc=>by
  obtain ⟨r,f',e,hr,hf'⟩:=Ah hc (n:=26) (by decide) (by decide);obtain ⟨c,e2,hc⟩:=Yo (i:=r) (by omega) hr;exact ⟨.str [c],f',by unfold El;simp only [e,e2,Option.bind_some],⟨c,rfl,hc⟩,hf'⟩
 obtain ⟨z,e2,hz⟩:=Sy hd (by omega);exact ⟨z,f',⟨ds,by rw [CK (by omega),e],e2⟩,by rw [hl2] at hz;exact hz,hf'⟩
theorem pJ {α:Type} (xs:List α) (r:Nat):(Dj xs none (some (r:Int))).length<=r:=by
 unfold Dj;rw [List.length_take];unfold HT.sIx;simp only [];split<;>omega
theorem pI {α:Type} (xs:List α) (r:Nat) (h:Option Int):(Dj xs (some (r:Int)) h).length<=xs.length - r:=by
 unfold Dj;rw [List.length_take,List.length_drop];have:HT.sIx xs.length 0 (some (r:Int))=min r xs.length:=by unfold HT.sIx;simp only [];split<;>omega
 omega
theorem pS {N:Nat} {l:List Nat} (hN:l.length<=1000000) (h:∀ c∈l,c < 128) {lo hi:Option Int} (hl:(Dj l lo hi).length<=N):∃ y,ab lo hi (.str l)=some y/\Tx N y:=
 ⟨.str (TQ l lo hi),by simp only [ab,if_pos hN],_,rfl,by rw [QD];exact hl,fun c hc=>h c (Jj (by rw [<- QD];exact hc))⟩
theorem Sq {x:Dv} (h:Tx 4 x):∃ y,Fu x=some y/\Tx 5 y:=by
 obtain ⟨l,rfl,h1,h2⟩:=id h;unfold Fu;have e:=WV false l [[100,101,102],[108,101,116],[116,101,108,108],[108,111,111,112],[112,105,99,107],[99,97,108,108]];simp only [List.map_cons,List.map_nil,Bool.false_eq_true,if_false] at e;simp only [e,Option.bind_some];split
 ·obtain ⟨z,e1,hz⟩:=h.add (Oq (c:=113) (by decide)) (by decide);exact ⟨z,by rw [e1];rfl,hz⟩
 ·exact ⟨_,rfl,h.mono (by decide)⟩
theorem ME {f:Dv} (hf:Fd f) {n:Nat} (h2:2<=n) (hn:n<=1000):∃ ns f',DJ f (.int n)=some (.lst ns,f')/\ns.length=n/\(∀ x∈ns,Tx 5 x)/\Fd f':=by
 obtain ⟨r1,f1,e1,b1,hf1⟩:=Ah hf (n:=4) (by decide) (by decide);have er:BY (.int r1)=some ((List.range (r1:Int).toNat).map fun k=>.int (k:Nat)):=Hr (by omega) (by omega);obtain ⟨z,f2,⟨ds,e3,e4⟩,hz,hf2⟩:=VQ hf1 ((List.range (r1:Int).toNat).map fun k=>.int (k:Nat)) (by simp;omega);have hz:Tx 3 z:=hz.mono (by simp;omega);obtain ⟨zl,rfl,hz1,hz2⟩:=hz;obtain ⟨r7,f7,e7,b7,hf7⟩:=Ah hf2 (n:=26) (by decide) (by decide);have el:Dx (.str zl)=some (.int zl.length):=by simp only [Dx,if_pos (show zl.length<=1000000 by omega)]
 obtain ⟨r10,f10,e10,b10,hf10⟩:=Ah hf7 (n:=(zl.length:Int)+1) (by omega) (by omega);obtain ⟨r11,f11,e11,b11,hf11⟩:=Ah hf10 (n:=4) (by decide) (by decide);have en:BY (.int n)=some ((List.range (n:Int).toNat).map fun k=>.int (k:Nat)):=Hr (by omega) (by omega);obtain ⟨c,e12,ns,rfl,hl,hns⟩:=Jc (GC (.str kP) (.str zl) (.int r7) (.int r10) (.int r11)) (fun i c=>∃ ns,c=.lst ns/\ns.length=i/\∀ x∈ns,Tx 5 x) ((List.range (n:Int).toNat).map fun k=>.int (k:Nat)) 0 (.lst []) ⟨[],rfl,rfl,fun _ z=>(List.not_mem_nil z).elim⟩ fun i x hx c hc=>by
  obtain ⟨ns,rfl,hl,hns⟩:=hc;rw [List.getElem?_map] at hx;have hi:i < n:=by
   rcases Nat.lt_or_ge i n with h | h
   ·exact h
   ·rw [List.getElem?_eq_none (by simp;omega)] at hx;cases hx
  rw [List.getElem?_eq_getElem (by simp;omega)] at hx;simp only [Option.map_some,Option.some.injEq,List.getElem_range] at hx;subst hx;obtain ⟨c,ec,hc⟩:=Yo (i:=((r7:Int)+7 * (i:Nat)) % 26) (Int.emod_nonneg _ (by decide)) (Int.emod_lt_of_pos _ (by decide));obtain ⟨y1,ey1,hy1⟩:=pS (by omega) hz2 (pJ zl r10);obtain ⟨y2,ey2,hy2⟩:=hy1.add (Oq hc) (by omega);obtain ⟨y3,ey3,hy3⟩:=pS (by omega) hz2 (pI zl r10 (some (((r11:Int)+(i:Nat)) % 4)));obtain ⟨y4,ey4,hy4⟩:=hy2.add hy3 (by omega);obtain ⟨y5,ey5,hy5⟩:=Sq (hy4.mono (by omega));refine ⟨.lst (ns++[y5]),?_,ns++[y5],rfl,by rw [List.length_append,hl];rfl,fun x hx=>?_⟩
  ·have b7:big 7=true:=by decide
   unfold GC;simp only [Fj,b7,Bool.true_or,if_true,Option.bind_some,GO,NG _ _ (show (0:Int) < 26 by decide),NG _ _ (show (0:Int) < 4 by decide),ec,NF,dF,ey1,ey3];rw [ey2];simp only [Option.bind_some];rw [ey4];simp only [Option.bind_some,ey5,BP];rw [if_pos (show ns.length<=1000000 by omega)];rfl
  ·rcases List.mem_append.mp hx with hx | hx
   ·exact hns x hx
   ·rw [List.mem_singleton] at hx;subst hx;exact hy5
 have hl:ns.length=n:=by rw [hl];simp
 have last:∃ ms f',Ft f11 (.int n) (.lst ns)=some (f',.lst ms)/\ms.length=n/\(∀ x∈ms,Tx 5 x)/\Fd f':=by
  have m2:∃ x∈ns,AN (.lst ns) (.int (-2))=some x:=by
   refine ⟨ns[n - 2]'(by omega),List.getElem_mem _,?_⟩;simp only [AN,Gy,Qb];rw [if_neg (by omega),if_pos (by omega)];simp only [Option.bind_some];rw [show (-2+(ns.length:Int)).toNat=n - 2 by omega];exact List.getElem?_eq_getElem (by omega)
  obtain ⟨x,hx,ex⟩:=m2;obtain ⟨l,rfl,hl1,hl2⟩:=id (hns x hx);have t1:∃ (b:Bool) (f':Dv),Fq f11 (.int n) (.lst ns)=some (b,f')/\(b=true->l.length<=3)/\Fd f':=by
   unfold Fq;simp only [FI,show (1:Int) < n by omega,decide_true,if_true,Option.bind_some,QX,ex,Dx,if_pos (show l.length<=1000000 by omega)];split
   ·rename_i hlt;obtain ⟨r,f',e,_,h⟩:=Ah hf11 (n:=4) (by decide) (by decide);simp only [e,Option.bind_some,CC];exact ⟨_,_,rfl,fun _=>by have:=of_decide_eq_true hlt;omega,h⟩
   ·exact ⟨_,_,rfl,(fun z=>by cases z),hf11⟩
  obtain ⟨b,f',et,hb3,hf'⟩:=t1;unfold Ft;simp only [et,Option.bind_some];cases b
  ·exact ⟨ns,f',by simp,hl,hns,hf'⟩
  ·obtain ⟨y,ey,hy⟩:=Tx.add (N:=3) (M:=1) ⟨l,rfl,hb3 rfl,hl2⟩ (Oq (c:=113) (by decide)) (by decide);simp only [if_true,QX,Option.bind_some,ex,ey,CL,Qb];rw [if_neg (by omega),if_pos (by omega)];refine ⟨_,f',rfl,by rw [List.length_set];exact hl,fun x hx=>?_,hf'⟩;rcases List.mem_or_eq_of_mem_set hx with hx | rfl
   ·exact hns x hx
   ·exact hy.mono (by decide)
 obtain ⟨ms,f',e13,hl3,hms,hf'⟩:=last;refine ⟨ms,f',?_,hl3,hms,hf'⟩;unfold DJ;simp only [e1,er,Option.bind_some,e3,e4,e7,el,GO,e10,e11,en];rw [e12];simp only [Option.bind_some,e13]
def mr (n:Nat) (xs:List Dv):Prop:=∀ y∈xs,∃ r:Nat,y=.int r/\r < n
def Row (n:Nat) (x:Dv):Prop:=∃ xs,x=.tup xs/\xs.length=n/\mr n xs
def Tab (n:Nat) (r:Int) (x:Dv):Prop:=(r=1/\Row n x)\/(r=2/\∃ xs,x=.tup xs/\xs.length=n/\∀ y∈xs,Row n y)
def aj (N:Nat) (x:Dv):Prop:=∃ a r,x=.tup [a,.int r]/\Tx N a/\(r=1\/r=2)
def WX (n:Nat) (d t:Dv):Prop:=∃ a r,d=.tup [a,.int r]/\(r=1\/r=2)/\Tab n r t
theorem Lo {f:Dv} (hf:Fd f):∃ fs ds f',Dd f=some (.tup [.tup fs,.tup ds],f')/\fs.length<=4/\(∀ x∈fs,Tx 10 x)/\ds.length<=3/\(∀ x∈ds,aj 5 x)/\Fd f':=by
 obtain ⟨ns,f1,e1,hl,hns,hf1⟩:=ME hf (n:=4) (by decide) (by decide);obtain ⟨r2,f2,e2,b2,hf2⟩:=Ah hf1 (n:=4) (by decide) (by decide);have h3:∀ x∈Dj ns none (some (r2:Int)),Tx 5 x:=fun x hx=>hns x (Jj hx)
 have l3:=LN ns none (some (r2:Int));obtain ⟨ps,e4,l4,h4⟩:=GH Fy (Tx 10) (Dj ns none (some (r2:Int))) fun x hx=>by
  obtain ⟨y1,ey1,hy1⟩:=(h3 x hx).cut (by decide) none (some 1);obtain ⟨y2,ey2,hy2⟩:=hy1.upper (by decide);obtain ⟨y3,ey3,hy3⟩:=(h3 x hx).cut (by decide) (some 1) none;obtain ⟨y4,ey4,hy4⟩:=hy2.add hy3 (by decide);exact ⟨y4,by unfold Fy;simp only [NF,Tb,ey1,ey2,ey3,ey4,Option.bind_some],hy4⟩
 obtain ⟨ms,f10,e10,hl10,hms,hf10⟩:=ME hf2 (n:=3) (by decide) (by decide);obtain ⟨r11,f11,e11,b11,hf11⟩:=Ah hf10 (n:=8) (by decide) (by decide);have m:∀ x∈[(Dv.int 1),(Dv.int 2),(Dv.int 3),(Dv.int 2),(Dv.int 3),(Dv.int 1),(Dv.int 2),(Dv.int 0)],∃ k:Nat,x=.int k/\k<=3:=by
  intro x hx;simp only [List.mem_cons,List.not_mem_nil,or_false] at hx;rcases hx with rfl | rfl | rfl | rfl | rfl | rfl | rfl | rfl
  all_goals first | exact ⟨0,rfl,by decide⟩ | exact ⟨1,rfl,by decide⟩ | exact ⟨2,rfl,by decide⟩ | exact ⟨3,rfl,by decide⟩
 obtain ⟨x,hx,ex⟩:=SG (xs:=[(Dv.int 1),(Dv.int 2),(Dv.int 3),(Dv.int 2),(Dv.int 3),(Dv.int 1),(Dv.int 2),(Dv.int 0)]) (i:=r11) (by omega) b11;obtain ⟨k,rfl,hk⟩:=m x hx;have er:BY (.int k)=some ((List.range (k:Int).toNat).map fun j=>.int (j:Nat)):=Hr (by omega) (by omega);obtain ⟨qs,f16,e16,l6,h6,hf16⟩:=Eo (Fw (.lst ms)) Fd (aj 5) ((List.range (k:Int).toNat).map fun j=>.int (j:Nat)) f11 hf11 fun x hx c hc=>by
  obtain ⟨j,hj,rfl⟩:=List.mem_map.mp hx;have hj:j < k:=by simpa using hj
  obtain ⟨a,ha,ea⟩:=SG (xs:=ms) (i:=j) (by omega) (by omega);obtain ⟨r,f',e,b,hf'⟩:=Ah hc (n:=2) (by decide) (by decide);exact ⟨.tup [a,.int (1+r)],f',by unfold Fw;simp only [ea,e,Option.bind_some,GO],⟨a,1+r,rfl,hms a ha,by omega⟩,hf'⟩
 refine ⟨ps,qs,f16,?_,by omega,h4,by rw [l6];simp;omega,h6,hf16⟩;have e1':DJ f (.int 4)=some (.lst ns,f1):=e1;have e10':DJ f2 (.int 3)=some (.lst ms,f10):=e10;unfold Dd;simp only [e1',e2,Option.bind_some,NF,ab,Ak,Bg];rw [CK (by omega),e4];simp only [Option.bind_some,e10',e11];rw [ex];simp only [Option.bind_some,er];rw [CK (by simp;omega),e16];rfl
theorem Lr (g:Dv->Dv->Dv->Option (Dv×Dv)) (hg:∀ x2 it c,g x2 it c=(AL c x2).bind fun r=>some (r.1,r.2)) {n:Nat} (h0:0 < n) (h1:n<=1000) {f:Dv} (hf:Fd f) (xs:List Dv):∃ ts f',CM (g (.int n)) xs f=some (ts,f')/\ts.length=xs.length/\mr n ts/\Fd f':=
 Eo (g (.int n)) Fd (fun y=>∃ r:Nat,y=.int r/\r < n) xs f hf fun x hx c hc=>by
  obtain ⟨r,f',e,b,hf'⟩:=Ah hc (n:=n) (by omega) (by omega);exact ⟨.int r,f',by rw [hg,e];rfl,⟨r,rfl,by omega⟩,hf'⟩
theorem OH (g:Dv->(Dv×Dv)->Option (Dv×Dv)) (P:Dv->Prop) (R:Dv->Dv->Prop):∀ (xs:List Dv) (f:Dv) (acc:List Dv),P f->acc.length+xs.length<=1000->(∀ x∈xs,∀ f acc,P f->acc.length<=1000->∃ f' t,g x (f,.lst acc)=some (f',.lst (acc++[t]))/\R x t/\P f')->∃ f' ts,Cm g xs (f,.lst acc)=some (f',.lst (acc++ts))/\Paired R xs ts/\P f'
 | [],f,acc,hf,_,_=>⟨f,[],by simp only [Cm,List.append_nil],.nil,hf⟩
 | x::xs,f,acc,hf,hl,h=>by
  rw [List.length_cons] at hl;obtain ⟨f1,t,e1,r1,h1⟩:=h x List.mem_cons_self f acc hf (by omega);obtain ⟨f2,ts,e2,r2,h2⟩:=OH g P R xs f1 (acc++[t]) h1 (by rw [List.length_append];simp;omega) fun y hy=>h y (List.mem_cons_of_mem _ hy)
  exact ⟨f2,t::ts,by simp only [Cm,e1,Option.bind_some,e2,List.append_assoc,List.singleton_append],.cons r1 r2,h2⟩
theorem SJ {f:Dv} (hf:Fd f) {fs ds:List Dv} {n:Nat} (h0:0 < n) (h1:n<=1000) (hfs:fs.length<=100) (hds:ds.length<=100) (hd:∀ x∈ds,∃ a r,x=.tup [a,.int r]/\(r=1\/r=2)):∃ ts tbs f',CW f (.tup [.tup fs,.tup ds]) (.int n)=some (.tup [.int n,.tup ts,.tup tbs],f')/\ts.length=fs.length/\mr n ts/\Paired (WX n) ds tbs/\Fd f':=by
  obtain ⟨ts,f1,e1,l1,h1',hf1⟩:=Lr Hu (fun _ _ _=>rfl) h0 h1 hf fs;have er:BY (.int n)=some ((List.range (n:Int).toNat).map fun j=>.int (j:Nat)):=Hr (by omega) (by omega);have lr:((List.range (n:Int).toNat).map fun j=>Dv.int (j:Nat)).length=n:=by simp
  obtain ⟨f2,tbs,e2,p2,hf2⟩:=OH (Em (.int n)) Fd (WX n) ds f1 [] hf1 (by simp;omega) fun x hx f acc hf hl=>by
    obtain ⟨a,r,rfl,hr⟩:=hd x hx;rcases hr with rfl | rfl
    · obtain ⟨ys,f',e,l,hy,hf'⟩:=Lr Ht (fun _ _ _=>rfl) h0 h1 hf ((List.range (n:Int).toNat).map fun j=>.int (j:Nat));refine ⟨f',.tup ys,?_,⟨a,1,rfl,.inl rfl,.inl ⟨rfl,ys,rfl,by rw [l,lr],hy⟩⟩,hf'⟩;unfold Em;simp only [SD,Option.bind_some,CC,decide_true,if_true,er];rw [CK (by omega),e];simp only [Option.bind_some,Av,BP];rw [if_pos (by omega)];rfl
    · obtain ⟨ys,f',e,l,hy,hf'⟩:=Eo (Fv (.int n)) Fd (Row n) ((List.range (n:Int).toNat).map fun j=>.int (j:Nat)) f hf fun x hx c hc=>by
        obtain ⟨zs,f',e,l,hz,hf'⟩:=Lr Hs (fun _ _ _=>rfl) h0 h1 hc ((List.range (n:Int).toNat).map fun j=>.int (j:Nat));refine ⟨.tup zs,f',?_,⟨zs,rfl,by rw [l,lr],hz⟩,hf'⟩;unfold Fv;simp only [Option.bind_some,er];rw [CK (by omega),e];simp only [Option.bind_some,Av]
      refine ⟨f',.tup ys,?_,⟨a,2,rfl,.inr rfl,.inr ⟨rfl,ys,rfl,by rw [l,lr],hy⟩⟩,hf'⟩;unfold Em;simp only [SD,Option.bind_some,CC,show decide ((2:Int)=1)=false by decide,Bool.false_eq_true,if_false,er];rw [CK (by omega),e];simp only [Option.bind_some,Av,BP];rw [if_pos (by omega)];rfl
  refine ⟨ts,tbs,f2,?_,l1,h1',p2,hf2⟩;have i0:AN (.tup [.tup fs,.tup ds]) (.int 0)=some (.tup fs):=rfl;have i1:AN (.tup [.tup fs,.tup ds]) (.int 1)=some (.tup ds):=rfl;unfold CW;simp only [i0,i1,Option.bind_some,Ak,Bg];rw [CK (by omega),e1];simp only [Option.bind_some,Av];rw [e2];rfl
theorem aT:∀ (xs:List Dv),(∀ x∈xs,x=.bl true)->Kq (.lst xs)=some true:=by
 intro xs h;have:∃ bs,LV xs=some bs/\bs.all id=true:=by
  induction xs with
  | nil=>exact ⟨[],rfl,rfl⟩
  | cons x xs ih =>
   obtain ⟨bs,e,hb⟩:=ih fun y hy=>h y (List.mem_cons_of_mem _ hy)
   rw [h x List.mem_cons_self];exact ⟨true::bs,by simp only [LV,e,Option.map_some],by simp [hb]⟩
 obtain ⟨bs,e,hb⟩:=this;simp only [Kq,e,Option.map_some,hb]
theorem Vt {g:Dv->Option Dv} {xs:List Dv} (hl:xs.length<=1000000) (h:∀ x∈xs,g x=some (.bl true)):∃ ps,Gu xs (Cv g xs)=some ps/\Kq (.lst ps)=some true:=by
 obtain ⟨ps,e,_,hp⟩:=GH g (fun d=>d=.bl true) xs fun x hx=>⟨_,h x hx,rfl⟩
 exact ⟨ps,by rw [CK hl,e],aT ps hp⟩
theorem WZ {z:Dv}:∀ (xs:List Dv),z∈CV xs xs->∃ x∈xs,z=.tup [x,x]
 | [],h=>by simp [CV] at h
 | x::xs,h=>by
  simp only [CV,List.mem_cons] at h;rcases h with rfl | h
  ·exact ⟨x,List.mem_cons_self,rfl⟩
  ·obtain ⟨y,hy,e⟩:=WZ xs h;exact ⟨y,List.mem_cons_of_mem _ hy,e⟩
theorem _root_.Q.pair_len {R:Dv->Dv->Prop}:∀ {xs ys:List Dv},Paired R xs ys->xs.length=ys.length
 | _,_,.nil=>rfl
 | _,_,.cons _ p=>by rw [List.length_cons,List.length_cons,pair_len p]
noncomputable def nI (ts:List Nat):List Dv:=ts.map fun t=>Dv.int (t:Nat)
def tI (ts:List Nat):Dv:=.tup (nI ts)
theorem Cj (ts:List Nat):(nI ts).length=ts.length:=by simp [nI]
theorem YI (a b:List Nat):nI (a++b)=nI a++nI b:=by simp [nI]
theorem XA (ts:List Nat):Dx (tI ts)=some (.int (ts.length:Nat)):=by show some (Dv.int ((nI ts).length:Nat))=_;rw [Cj]
theorem OZ {n:Nat}:∀ {xs:List Dv},mr n xs->∃ ts,xs=nI ts/\∀ t∈ts,t < n
 | [],_=>⟨[],rfl,fun _ h=>by cases h⟩
 | x::xs,h=>by
  obtain ⟨ts,e,ht⟩:=OZ (xs:=xs) fun y hy=>h y (List.mem_cons_of_mem _ hy)
  obtain ⟨r,rfl,hr⟩:=h x List.mem_cons_self;refine ⟨r::ts,by rw [e];rfl,fun t h=>?_⟩;rcases List.mem_cons.mp h with rfl | h
  ·exact hr
  ·exact ht t h
theorem iw {n:Nat} {ts:List Nat} (h:∀ t∈ts,t < n):mr n (nI ts):=fun y hy=>by
 obtain ⟨t,ht,rfl⟩:=List.mem_map.mp hy;exact ⟨t,rfl,h t ht⟩
theorem Gq {ts:List Nat} {h:Nat} (hh:h < ts.length):AN (tI ts) (.int (h:Nat))=some (.int (ts.getD h 0:Nat)):=by
 show Gy (nI ts) (h:Int)=_;rw [atI_nat _ _ (by rw [Cj];exact hh)];simp [nI,List.getD,hh]
theorem getD_mem {ts:List Nat} {h:Nat} (hh:h < ts.length):ts.getD h 0∈ts:=by
 simp [List.getD,hh]
def sub (x:Dv) (a:Nat):Dv:=(AN x (.int (a:Nat))).getD .non
def JK (x:Dv) (a:Nat):Nat:=match sub x a with | .int c=>c.toNat | _=>0
theorem FL {n:Nat} {x:Dv} {a:Nat} (h:Row n x) (ha:a < n):AN x (.int (a:Nat))=some (.int (JK x a:Nat))/\JK x a < n:=by
 obtain ⟨xs,rfl,hl,hx⟩:=h;obtain ⟨y,hy,e⟩:=gM (xs:=xs) (i:=a) (by omega) (by omega);obtain ⟨c,rfl,hc⟩:=hx y hy;have:JK (.tup xs) a=c:=by unfold JK sub;rw [e];simp
 rw [this];exact ⟨e,hc⟩
def dI (n:Nat) (x:Dv):Prop:=∃ xs,x=.tup xs/\xs.length=n/\∀ y∈xs,Row n y
theorem JN {n:Nat} {x:Dv} {a:Nat} (h:dI n x) (ha:a < n):AN x (.int (a:Nat))=some (sub x a)/\Row n (sub x a):=by
 obtain ⟨xs,rfl,hl,hx⟩:=h;obtain ⟨y,hy,e⟩:=gM (xs:=xs) (i:=a) (by omega) (by omega);have:sub (.tup xs) a=y:=by unfold sub;rw [e];rfl
 rw [this];exact ⟨e,hx y hy⟩
theorem Tab.one {n:Nat} {x:Dv} (h:Tab n 1 x):Row n x:=by
 rcases h with ⟨_,h⟩ | ⟨h,_⟩
 ·exact h
 ·cases h
theorem Tab.two {n:Nat} {x:Dv} (h:Tab n 2 x):dI n x:=by
 rcases h with ⟨h,_⟩ | ⟨_,h⟩
 ·cases h
 ·exact h
def Wl (n nf:Nat) (ds:List Dv) (w:Dv) (cs:List Nat) (tbs:List Dv):Prop:=w=.tup [.int (n:Nat),tI cs,.tup tbs]/\cs.length=nf/\(∀ c∈cs,c < n)/\Paired (WX n) ds tbs
theorem Wl.w0 {n nf:Nat} {ds:List Dv} {w:Dv} {cs:List Nat} {tbs:List Dv} (h:Wl n nf ds w cs tbs):AN w (.int 0)=some (.int (n:Nat)):=by rw [h.1];rfl
theorem Wl.w1 {n nf:Nat} {ds:List Dv} {w:Dv} {cs:List Nat} {tbs:List Dv} (h:Wl n nf ds w cs tbs):AN w (.int 1)=some (tI cs):=by rw [h.1];rfl
theorem Wl.w2 {n nf:Nat} {ds:List Dv} {w:Dv} {cs:List Nat} {tbs:List Dv} (h:Wl n nf ds w cs tbs):AN w (.int 2)=some (.tup tbs):=by rw [h.1];rfl
theorem LR {n m:Nat} {z:Dv}:∀ {ds ts us:List Dv},Paired (WX n) ds ts->Paired (WX m) ds us->z∈EE ds ts us->∃ a r t u,z=.tup [.tup [a,.int r],t,u]/\(r=1\/r=2)/\Tab n r t/\Tab m r u
 | _,_,_,.nil,_,h=>by simp [EE] at h
 | _,_,_,.cons q1 p1,.cons q2 p2,h=>by
  simp only [EE,List.mem_cons] at h;rcases h with rfl | h
  ·obtain ⟨a,r,rfl,hr,ht⟩:=q1;obtain ⟨a',r',e,_,hu⟩:=q2;simp only [Dv.tup.injEq,List.cons.injEq,Dv.int.injEq,and_true] at e;obtain ⟨_,rfl⟩:=e;exact ⟨a,r,_,_,rfl,hr,ht,hu⟩
  ·exact LR p1 p2 h
theorem Qd {z:Dv}:∀ {cs es:List Nat},z∈CV (nI cs) (nI es)->∃ c e:Nat,z=.tup [.int c,.int e]/\c∈cs
 | [],es,h=>by simp [nI,CV] at h
 | c::cs,[],h=>by simp [nI,CV] at h
 | c::cs,e::es,h=>by
  simp only [nI,List.map_cons,CV,List.mem_cons] at h;rcases h with rfl | h
  ·exact ⟨c,e,rfl,List.mem_cons_self⟩
  ·obtain ⟨c',e',q,hc⟩:=Qd (cs:=cs) (es:=es) h;exact ⟨c',e',q,List.mem_cons_of_mem _ hc⟩
noncomputable def NP (ts:List Nat) (h v:Nat):Bool:=decide (ts.length<=h) || decide (ts.getD h 0=v)
def Gs (T U:Dv) (ts:List Nat):Bool:=(List.range ts.length).all fun k=>NP ts (JK T k) (JK U (ts.getD k 0))
def OC (T U:Dv) (ts:List Nat):Bool:=(List.range ts.length).all fun k=>Gs (sub T k) (sub U (ts.getD k 0)) ts
def Kk (ts:List Nat) (z:Dv):Bool:=match z with | .tup [.int c,.int d]=>NP ts c.toNat d.toNat | _=>true
def FB (ts:List Nat) (z:Dv):Bool:=match z with | .tup [.tup [_,.int r],T,U]=>if r=1 then Gs T U ts else OC T U ts | _=>true
def la (cs es:List Nat) (ds T U:List Dv) (ts:List Nat):Bool:=(CV (nI cs) (nI es)).all (Kk ts) && (EE ds T U).all (FB ts)
theorem Ji (a b:Nat):decide ((a:Int)=(b:Int))=decide (a=b):=decide_eq_decide.mpr (by omega)
theorem cH (ts:List Nat) (h v:Nat):Cz (.int (h:Nat)) (.int (v:Nat)) (tI ts)=some (NP ts h v):=by
 unfold Cz NP;simp only [XA,Option.bind_some,FI]
 by_cases hh:ts.length<=h
 ·have:((ts.length:Nat):Int)<=(h:Int):=by omega
  simp only [this,hh,decide_true,if_true,Bool.true_or]
 ·have:¬ ((ts.length:Nat):Int)<=(h:Int):=by omega
  simp only [this,hh,decide_false,Bool.false_eq_true,if_false,Bool.false_or,Gq (show h < ts.length by omega),Option.bind_some,CC,Ji]
theorem Ui:∀ (ts:List Nat) (j:Nat),Jf j (nI ts)=(List.range ts.length).map fun k=>.tup [.int ((j+k:Nat)),.int (ts.getD k 0:Nat)]
 | [],j=>rfl
 | t::ts,j=>by
  have ih:=Ui ts (j+1);simp only [nI,List.map_cons,Jf,List.length_cons,List.range_succ_eq_map,List.map_cons,List.map_map,Function.comp_def];simp only [nI] at ih;rw [ih];congr 1;refine List.map_congr_left fun k _=>?_
  rw [show j+1+k=j+(k+1) by omega];simp [List.getD]
theorem aR {α:Type} (p:α->Bool):∀ (xs:List α),Kq (.lst (xs.map fun x=>.bl (p x)))=some (xs.all p):=by
 intro xs;have:LV (xs.map fun x=>.bl (p x))=some (xs.map p):=by
  induction xs with
  | nil=>rfl
  | cons x xs ih=>simp only [List.map_cons,LV,ih,Option.map_some]
 simp only [Kq,this,Option.map_some,List.all_map,Function.comp_def,id]
theorem Pe {α:Type} (g:Dv->Option Dv) (f:α->Dv) (p:α->Bool) (xs:List α) (hl:xs.length<=1000000) (h:∀ x∈xs,g (f x)=some (.bl (p x))):∃ ps,Gu (xs.map f) (Cv g (xs.map f))=some ps/\Kq (.lst ps)=some (xs.all p):=by
 have:Cv g (xs.map f)=some (xs.map fun x=>.bl (p x)):=by
  clear hl
  induction xs with
  | nil=>rfl
  | cons x xs ih=>simp only [List.map_cons,Cv,h x List.mem_cons_self,ih fun y hy=>h y (List.mem_cons_of_mem _ hy),Option.bind_some]
 exact ⟨_,by rw [CK (by rw [List.length_map];exact hl),this],aR p xs⟩
theorem qg (m:Nat) (ts:List Nat) (h v:Nat):AZ (m+1) (.int 0) (.int (h:Nat)) (.int (v:Nat)) (tI ts)=some (NP ts h v):=by
 simp only [AZ,CC,decide_true,Option.bind_some,if_true,cH]
theorem gB (ts:List Nat):QY (tI ts)=some ((List.range ts.length).map fun k=>.tup [.int (k:Nat),.int (ts.getD k 0:Nat)]):=by
 show some (Jf 0 (nI ts))=_;rw [Ui];simp only [Nat.zero_add]
theorem sub_int (i j:Int):SE (.int i) (.int j)=some (.int (i - j)):=rfl
section
variable {n1 n2:Nat} {T U:Dv} {ts:List Nat}
theorem pU (m:Nat) (hT:Row n1 T) (hU:Row n2 U) (hl:ts.length<=n1) (hn:n1<=1000) (ht:∀ t∈ts,t < n2):AZ (m+2) (.int 1) T U (tI ts)=some (Gs T U ts):=by
 obtain ⟨ps,e,hp⟩:=Pe (Bv (AZ (m+1)) (.int 1) T U (tI ts)) (fun k:Nat=>.tup [.int (k:Nat),.int (ts.getD k 0:Nat)]) (fun k=>NP ts (JK T k) (JK U (ts.getD k 0))) (List.range ts.length) (by simp;omega) fun k hk=>by
  have hk:k < ts.length:=by simpa using hk
  have e1:=(FL hT (show k < n1 by omega)).1;have e2:=(FL hU (ht _ (getD_mem hk))).1;simp only [Bv,SD,Option.bind_some,sub_int,e1,e2,show ((1:Int) - 1)=0 by decide,qg]
 unfold AZ;simp only [CC,show decide ((1:Int)=0)=false by decide,Option.bind_some,Bool.false_eq_true,if_false,gB,e,hp];rfl
theorem qf (m:Nat) (hT:dI n1 T) (hU:dI n2 U) (hl:ts.length<=n1) (hn:n1<=1000) (ht:∀ t∈ts,t < n2):AZ (m+3) (.int 2) T U (tI ts)=some (OC T U ts):=by
 obtain ⟨ps,e,hp⟩:=Pe (Bv (AZ (m+2)) (.int 2) T U (tI ts)) (fun k:Nat=>.tup [.int (k:Nat),.int (ts.getD k 0:Nat)]) (fun k=>Gs (sub T k) (sub U (ts.getD k 0)) ts) (List.range ts.length) (by simp;omega) fun k hk=>by
  have hk:k < ts.length:=by simpa using hk
  obtain ⟨e1,r1⟩:=JN hT (show k < n1 by omega);obtain ⟨e2,r2⟩:=JN hU (ht _ (getD_mem hk));simp only [Bv,SD,Option.bind_some,sub_int,e1,e2,show ((2:Int) - 1)=1 by decide,pU m r1 r2 hl hn ht]
 unfold AZ;simp only [CC,show decide ((2:Int)=0)=false by decide,Option.bind_some,Bool.false_eq_true,if_false,gB,e,hp];rfl
end
section
variable {n1 n2 nf:Nat} {ds:List Dv} {one oth fx:Dv} {cs es:List Nat} {T U:List Dv} {ts:List Nat}
theorem MG (W1:Wl n1 nf ds one cs T) (W2:Wl n2 nf ds oth es U) (hl:ts.length<=n1) (hn:n1<=1000) (ht:∀ t∈ts,t < n2):Bh (.tup [fx,.tup ds]) one oth (tI ts)=some (la cs es ds T U ts):=by
 have j1:AN (.tup [fx,.tup ds]) (.int 1)=some (.tup ds):=rfl;have z2:OW (tI cs) (tI es)=some (CV (nI cs) (nI es)):=rfl;have z3:OV (.tup ds) (.tup T) (.tup U)=some (EE ds T U):=rfl;have h1:=Ja (τ:=Bool) (ρ:=Unit) (DF (tI ts)) (fun z=>!Kk ts z) false () (CV (nI cs) (nI es)) fun z hz=>by
  obtain ⟨c,e,rfl,hc⟩:=Qd hz;have fz:Kk ts (.tup [.int (c:Nat),.int (e:Nat)])=NP ts c e:=by simp only [Kk,Int.toNat_natCast]
  have t1:DA (tI ts) (.int (c:Nat)) (.int (e:Nat))=some (!Kk ts (.tup [.int (c:Nat),.int (e:Nat)])):=by
   rw [fz];unfold DA NP;simp only [XA,Option.bind_some,FI]
   by_cases hh:c < ts.length
   ·have:(c:Int) < ((ts.length:Nat):Int):=by omega
    have h2:¬ ts.length<=c:=by omega
    simp only [this,h2,decide_true,decide_false,if_true,Bool.false_or,Gq hh,Option.bind_some,LP,Ji]
   ·have:¬ (c:Int) < ((ts.length:Nat):Int):=by omega
    have h2:ts.length<=c:=by omega
    simp only [this,h2,decide_true,decide_false,Bool.false_eq_true,if_false,Bool.true_or,Bool.not_true]
  simp only [DF,SD,Option.bind_some,t1]
  by_cases hb:(!Kk ts (.tup [.int (c:Nat),.int (e:Nat)]))=true
  ·rw [if_pos hb,if_pos hb]
  ·rw [if_neg hb,if_neg hb]
 have h2:=Ja (τ:=Bool) (ρ:=Unit) (DE (tI ts)) (fun z=>!FB ts z) false () (EE ds T U) fun z hz=>by
  obtain ⟨a,r,t,u,rfl,hr,h1,h2⟩:=LR W1.2.2.2 W2.2.2.2 hz;have i1:AN (.tup [a,.int r]) (.int 1)=some (.int r):=rfl;have t1:AZ 200 (.int r) t u (tI ts)=some (FB ts (.tup [.tup [a,.int r],t,u])):=by
   rcases hr with rfl | rfl
   ·simp only [FB,if_true];exact pU 198 h1.one h2.one hl hn ht
   ·simp only [FB,show ¬ ((2:Int)=1) by decide,if_false];exact qf 197 h1.two h2.two hl hn ht
  simp only [DE,gL,Option.bind_some,i1,t1]
  by_cases hb:(!FB ts (.tup [.tup [a,.int r],t,u]))=true
  ·rw [if_pos hb,if_pos hb]
  ·rw [if_neg hb,if_neg hb]
 unfold Bh la;simp only [W1.w1,W2.w1,W1.w2,W2.w2,j1,z2,z3,Option.bind_some];rw [h1,<- List.not_all_eq_any_not];cases (CV (nI cs) (nI es)).all (Kk ts)
 ·rfl
 ·simp only [Bool.not_true,Bool.false_eq_true,if_false,Option.bind_some,Rs.el];rw [h2,<- List.not_all_eq_any_not];cases (EE ds T U).all (FB ts)<;>rfl
theorem YG {ts:List Nat} {t h v:Nat} (x:NP (ts++[t]) h v=true):NP ts h v=true:=by
 unfold NP at x ⊢
 by_cases hh:ts.length<=h
 ·simp only [hh,decide_true,Bool.true_or]
 ·have h2:¬ (ts++[t]).length<=h:=by rw [List.length_append];simp;omega
  have e:(ts++[t]).getD h 0=ts.getD h 0:=by simp [List.getD,List.getElem?_append_left (show h < ts.length by omega)]
  simp only [h2,decide_false,Bool.false_or,e] at x;simp only [x,Bool.or_true]
theorem RT {T U:Dv} {ts:List Nat} {t:Nat} (f:List Nat) (hf:f=ts++[t]) (x:(List.range f.length).all (fun k=>NP f (JK T k) (JK U (f.getD k 0)))=true):Gs T U ts=true:=by
 subst hf;unfold Gs;rw [List.all_eq_true] at x ⊢;intro k hk;have hk:k < ts.length:=by simpa using hk
 have:=YG (x k (by simp;omega));have e:(ts++[t]).getD k 0=ts.getD k 0:=by simp [List.getD,List.getElem?_append_left hk]
 rw [e] at this;exact this
theorem ly {t:Nat} (x:la cs es ds T U (ts++[t])=true):la cs es ds T U ts=true:=by
 unfold la at x ⊢;rw [Bool.and_eq_true,List.all_eq_true,List.all_eq_true] at x ⊢;refine ⟨fun z hz=>?_,fun z hz=>?_⟩
 ·have:=x.1 z hz;unfold Kk at this ⊢;split at this
  ·exact YG this
  ·rfl
 ·have:=x.2 z hz;unfold FB at this ⊢;split at this
  ·split at this
   ·rename_i hr;rw [if_pos hr];exact RT _ rfl this
   ·rename_i hr;rw [if_neg hr];unfold OC at this ⊢;rw [List.all_eq_true] at this ⊢;intro k hk;have hk:k < ts.length:=by simpa using hk
    have y:=this k (by simp;omega);have e:(ts++[t]).getD k 0=ts.getD k 0:=by simp [List.getD,List.getElem?_append_left hk]
    rw [e] at y;exact RT _ rfl y
  ·rfl
end
theorem Jb {α τ ρ:Type} (g:Dv->Unit->Option (Lp τ Unit ρ)) (f:α->Dv) (p:α->Bool) (d:τ) (r:ρ):∀ (xs:List α),(∀ x∈xs,g (f x) ()=some (if (!p x)=true then .rt d r else .go ()))->EX g (xs.map f) ()=some (if (!xs.all p)=true then .rt d r else .go ())
 | [],_=>rfl
 | x::xs,h=>by
  have ih:=Jb g f p d r xs fun y hy=>h y (List.mem_cons_of_mem _ hy)
  simp only [List.map_cons,EX,h x List.mem_cons_self,Option.bind_some,List.all_cons]
  by_cases q:p x=true
  ·simp only [q,Bool.not_true,Bool.false_eq_true,if_false,Bool.true_and];exact ih
  ·have q:p x=false:=by simpa using q
   simp only [q,Bool.not_false,if_true,Bool.false_and]
theorem Jz {α:Type} (g:Dv->Option Dv) (f h:α->Dv):∀ (xs:List α),(∀ x∈xs,g (f x)=some (h x))->Cv g (xs.map f)=some (xs.map h)
 | [],_=>rfl
 | x::xs,e=>by simp only [List.map_cons,Cv,e x List.mem_cons_self,Jz g f h xs fun y hy=>e y (List.mem_cons_of_mem _ hy),Option.bind_some]
theorem JM:∀ ts:List Nat,DX (nI ts)=true
 | []=>rfl
 | t::ts=>by have:=JM ts;simp only [nI] at this;simp only [nI,List.map_cons,DX,Dv.cmp,this,Bool.and_self]
theorem JL:∀ ts:List Nat,DW (nI ts)=0
 | []=>rfl
 | t::ts=>by have:=JL ts;simp only [nI] at this;simp only [nI,List.map_cons,DW,Dv.dep,this];rfl
theorem Pt:∀ a b:List Nat,Q.eqVs (nI a) (nI b)=decide (a=b)
 | [],[]=>rfl
 | [],b::bs=>rfl
 | a::as,[]=>rfl
 | a::as,b::bs=>by
  have:=Pt as bs;simp only [nI] at this;simp only [nI,List.map_cons,Q.eqVs,Q.eqV,this,List.cons.injEq]
  by_cases e:a=b
  ·subst e;simp
  ·have:((a:Int) == (b:Int))=false:=beq_eq_false_iff_ne.mpr (by omega);simp [e,this]
theorem jt (a b:List Nat):WU (.lst (nI a)) (.lst (nI b))=some (!decide (a=b)):=by
 simp only [SB,Dv.cmp,Dv.dep,JM,JL,Bool.and_self,Nat.reduceAdd,Nat.reduceLeDiff,decide_true,if_true,Q.eqV,Pt]
theorem mul_int (i j:Int) (h:big j=true):Fj (.int i) (.int j)=some (.int (i * j)):=by simp only [Fj,h,Bool.or_true,if_true]
theorem Js (n:Nat) (h:n<=1000000):BY (.int (n:Nat))=some ((List.range n).map fun k=>.int (k:Nat)):=by
 have:=Hr (n:=(n:Int)) (by omega) (by omega);simpa using this
section
variable {n1 n2 nf:Nat} {ds:List Dv} {one oth fx:Dv} {cs es:List Nat} {T U:List Dv} {ts:List Nat}
theorem Sn {ts:List Nat} {h v:Nat} (hh:h < ts.length):NP ts h v=decide (ts.getD h 0=v):=by
 have:¬ ts.length<=h:=by omega
 simp only [NP,this,decide_false,Bool.false_or]
theorem Uh {ts:List Nat}:∀ {cs es:List Nat},cs.length=es.length->(∀ c∈cs,c < ts.length)->decide (cs.map (fun c=>ts.getD c 0)=es)=(CV (nI cs) (nI es)).all (Kk ts)
 | [],[],_,_=>rfl
 | [],_::_,h,_=>by simp at h
 | _::_,[],h,_=>by simp at h
 | c::cs,e::es,hl,hc=>by
  have ih:=Uh (ts:=ts) (cs:=cs) (es:=es) (by simpa using hl) fun x hx=>hc x (List.mem_cons_of_mem _ hx)
  simp only [nI] at ih;simp only [nI,List.map_cons,CV,List.all_cons,<- ih,Kk,Int.toNat_natCast,Sn (hc c List.mem_cons_self),List.cons.injEq]
  by_cases h:ts.getD c 0=e<;>simp [h]
theorem jG {x1 x3 x4 x5 x6 it:Dv} (h22:Co x3 x4 x5 x6 it=some true):Bq x1 x3 x4 x5 x6 it ()=some (Lp.rt false ()):=by
 unfold Bq;simp only [h22,Option.bind_some,if_true]
theorem Yx {x1 x3 x4 x5 x6 it t23 t24 t25 t26:Dv} {t27:List Dv} {l:Rs Bool Unit Unit} (h22:Co x3 x4 x5 x6 it=some false) (h23:AN x1 (.int 0)=some t23) (h24:AN x4 (.int 1)=some t24) (h25:SE t24 (.int 1)=some t25) (h26:Fj t23 t25=some t26) (h27:BY t26=some t27)
    (h28:EX (En x3 x5 x6 it) t27 ()=some l):Bq x1 x3 x4 x5 x6 it ()=l.el (fun _=>some (Lp.go ())) fun d r=>some (Lp.rt d ()):=by
  unfold Bq;simp only [h22,h23,h24,h25,h26,h27,h28,Option.bind_some,Bool.false_eq_true,if_false]
theorem mE {a t u:Dv} (W1:Wl n1 nf ds one cs T) (hl:ts.length=n1) (hn:n1<=1000) (ht:∀ t∈ts,t < n2) (h1:Tab n1 1 t) (h2:Tab n2 1 u) :
    EX (τ:=Bool) (ρ:=Unit) (Bq one (tI ts) (.tup [a,.int 1]) t u) ((List.range n1).map fun k=>.int (k:Nat)) ()=some (if (!Gs t u ts)=true then .rt false () else .go ()):=by
  have i1:AN (.tup [a,.int 1]) (.int 1)=some (.int 1):=rfl;have:=Jb (τ:=Bool) (ρ:=Unit) (Bq one (tI ts) (.tup [a,.int 1]) t u) (fun k:Nat=>Dv.int (k:Nat)) (fun k=>NP ts (JK t k) (JK u (ts.getD k 0))) false () (List.range n1) fun k hk=>by
    have hk:k < n1:=by simpa using hk
    obtain ⟨e1,b1⟩:=FL h1.one hk;have hk':k < ts.length:=by omega
    obtain ⟨e2,b2⟩:=FL h2.one (ht _ (getD_mem hk'));have b1':JK t k < ts.length:=by omega
    have t1:Co (tI ts) (.tup [a,.int 1]) t u (.int (k:Nat))=some (!NP ts (JK t k) (JK u (ts.getD k 0))):=by
      rw [Sn b1'];simp only [Co,i1,Option.bind_some,CC,decide_true,if_true,e1,Gq b1',Gq hk',e2,LP,Ji]
    have e0:SE (.int 1) (.int 1)=some (.int 0):=rfl;have e5:Fj (.int (n1:Nat)) (.int 0)=some (.int 0):=by rw [mul_int _ _ (show big 0=true by decide),Int.mul_zero]
    have r0:BY (.int 0)=some []:=Js 0 (by decide);cases hb:NP ts (JK t k) (JK u (ts.getD k 0)) with
    | false=>rw [hb] at t1;exact jG t1
    | true=>rw [hb] at t1;exact Yx t1 W1.w0 i1 e0 e5 r0 rfl
  rw [this];simp only [Gs,hl]
theorem mD {a t u:Dv} (W1:Wl n1 nf ds one cs T) (hl:ts.length=n1) (hn:n1<=1000) (ht:∀ t∈ts,t < n2) (h1:Tab n1 2 t) (h2:Tab n2 2 u) :
    EX (τ:=Bool) (ρ:=Unit) (Bq one (tI ts) (.tup [a,.int 2]) t u) ((List.range n1).map fun k=>.int (k:Nat)) ()=some (if (!OC t u ts)=true then .rt false () else .go ()):=by
  have i1:AN (.tup [a,.int 2]) (.int 1)=some (.int 2):=rfl;have:=Jb (τ:=Bool) (ρ:=Unit) (Bq one (tI ts) (.tup [a,.int 2]) t u) (fun k:Nat=>Dv.int (k:Nat)) (fun k=>Gs (sub t k) (sub u (ts.getD k 0)) ts) false () (List.range n1) fun k hk=>by
    have hk:k < n1:=by simpa using hk
    have hk':k < ts.length:=by omega
    obtain ⟨e1,r1⟩:=JN h1.two hk;obtain ⟨e2,r2⟩:=JN h2.two (ht _ (getD_mem hk'));have inn:=Jb (τ:=Bool) (ρ:=Unit) (En (tI ts) t u (.int (k:Nat))) (fun b:Nat=>Dv.int (b:Nat)) (fun b=>NP ts (JK (sub t k) b) (JK (sub u (ts.getD k 0)) (ts.getD b 0))) false () (List.range n1) fun b hb=>by
      have hb:b < n1:=by simpa using hb
      have hb':b < ts.length:=by omega
      obtain ⟨e3,b3⟩:=FL r1 hb;obtain ⟨e4,b4⟩:=FL r2 (ht _ (getD_mem hb'));have b3':JK (sub t k) b < ts.length:=by omega
      rw [Sn b3'];simp only [En,e1,e3,Gq b3',Gq hk',e2,Gq hb',e4,Option.bind_some,LP,Ji]
      by_cases hq:(!decide (ts.getD (JK (sub t k) b) 0=JK (sub u (ts.getD k 0)) (ts.getD b 0)))=true
      · rw [if_pos hq,if_pos hq]
      · rw [if_neg hq,if_neg hq]
    have t1:Co (tI ts) (.tup [a,.int 2]) t u (.int (k:Nat))=some false:=by
      simp only [Co,i1,Option.bind_some,CC,show decide ((2:Int)=1)=false by decide,Bool.false_eq_true,if_false]
    have e0:SE (.int 2) (.int 1)=some (.int 1):=rfl;have e5:Fj (.int (n1:Nat)) (.int 1)=some (.int (n1:Nat)):=by rw [mul_int _ _ (show big 1=true by decide),Int.mul_one]
    have r0:=Js n1 (by omega);refine (Yx t1 W1.w0 i1 e0 e5 r0 inn).trans ?_;have le:Gs (sub t k) (sub u (ts.getD k 0)) ts=(List.range n1).all fun b=>NP ts (JK (sub t k) b) (JK (sub u (ts.getD k 0)) (ts.getD b 0)):=by unfold Gs;rw [hl]
    rw [le]
    by_cases hq:(!(List.range n1).all fun b=>NP ts (JK (sub t k) b) (JK (sub u (ts.getD k 0)) (ts.getD b 0)))=true
    · rw [if_pos hq,if_pos hq];rfl
    · rw [if_neg hq,if_neg hq];rfl
  rw [this];simp only [OC,hl]
theorem MI (hnf:nf<=1000) (W1:Wl n1 nf ds one cs T) (W2:Wl n2 nf ds oth es U) (hl:ts.length=n1) (hn:n1<=1000) (ht:∀ t∈ts,t < n2):Dz (.tup [fx,.tup ds]) one oth (tI ts)=some (la cs es ds T U ts):=by
 have j1:AN (.tup [fx,.tup ds]) (.int 1)=some (.tup ds):=rfl;have z3:OV (.tup ds) (.tup T) (.tup U)=some (EE ds T U):=rfl;have i1:Ak (tI cs)=some (nI cs):=rfl;have l1:IZ (tI es)=some (.lst (nI es)):=rfl;have hcs:∀ c∈cs,c < ts.length:=fun c hc=>by rw [hl];exact W1.2.2.1 c hc
 have m1:Gu (nI cs) (Cv (Do (tI ts)) (nI cs))=some (nI (cs.map fun c=>ts.getD c 0)):=by
  have:=Jz (Do (tI ts)) (fun c:Nat=>Dv.int (c:Nat)) (fun c:Nat=>Dv.int (ts.getD c 0:Nat)) cs fun c hc=>by
   simp only [Do,Gq (hcs c hc),Option.bind_some]
  have e:Cv (Do (tI ts)) (nI cs)=some (nI (cs.map fun c=>ts.getD c 0)):=by
   unfold nI;rw [this,List.map_map];rfl
  rw [CK (by rw [Cj,W1.2.1];exact Nat.le_trans hnf (by decide)),e]
 have h2:=Ja (τ:=Bool) (ρ:=Unit) (GD one (tI ts)) (fun z=>!FB ts z) false () (EE ds T U) fun z hz=>by
  obtain ⟨a,r,t,u,rfl,hr,h1,h2⟩:=LR W1.2.2.2 W2.2.2.2 hz;have i1:AN (.tup [a,.int r]) (.int 1)=some (.int r):=rfl;have go:EX (Bq one (tI ts) (.tup [a,.int r]) t u) ((List.range n1).map fun k=>.int (k:Nat)) ()=some (if (!FB ts (.tup [.tup [a,.int r],t,u]))=true then .rt false () else .go ()):=by
   rcases hr with rfl | rfl
   ·have e:FB ts (.tup [.tup [a,.int 1],t,u])=Gs t u ts:=rfl;rw [e];exact mE W1 hl hn ht h1 h2
   ·have e:FB ts (.tup [.tup [a,.int 2],t,u])=OC t u ts:=rfl;rw [e];exact mD W1 hl hn ht h1 h2
  simp only [GD,gL,Option.bind_some,W1.w0,Js n1 (by omega),go]
  by_cases hb:(!FB ts (.tup [.tup [a,.int r],t,u]))=true
  ·rw [if_pos hb,if_pos hb];rfl
  ·rw [if_neg hb,if_neg hb];rfl
 unfold Dz la;simp only [W1.w1,W2.w1,W1.w2,W2.w2,j1,z3,i1,m1,l1,Option.bind_some,jt];rw [Uh (by rw [W1.2.1,W2.2.1]) hcs];cases (CV (nI cs) (nI es)).all (Kk ts)
 ·rfl
 ·simp only [Bool.not_true,Bool.false_eq_true,if_false];rw [h2,<- List.not_all_eq_any_not];cases (EE ds T U).all (FB ts)<;>rfl
end
noncomputable def ext (L:List (List Nat)) (n:Nat):List (List Nat):=L.flatMap fun r=>(List.range n).map fun t=>r++[t]
def rows (n:Nat):Nat->List (List Nat)
 | 0=>[[]]
 | k+1=>ext (rows n k) n
theorem LM (n:Nat):∀ L:List (List Nat),(ext L n).length=L.length * n
 | []=>by simp [ext]
 | x::L=>by have:=LM n L;unfold ext at this ⊢;rw [List.flatMap_cons,List.length_append,this,List.length_cons,Nat.add_mul];simp;omega
theorem Qm (n:Nat):∀ k,(rows n k).length=n ^ k
 | 0=>rfl
 | k+1=>by unfold rows;rw [LM,Qm n k,Nat.pow_succ]
theorem JS {n k:Nat} (hn:n<=4) (hk:k<=4):(rows n k).length<=256:=by
 rw [Qm];exact Nat.le_trans (Nat.pow_le_pow_left hn k) (Nat.le_trans (Nat.pow_le_pow_right (by decide) hk) (by decide))
theorem GE {n:Nat}:∀ {k:Nat} {r:List Nat},r∈rows n k->r.length=k/\∀ t∈r,t < n
 | 0,r,h=>by
  have:r=[]:=by simpa [rows] using h
  subst this;exact ⟨rfl,fun _ z=>by cases z⟩
 | k+1,r,h=>by
  unfold rows ext at h;obtain ⟨x,hx,h⟩:=List.mem_flatMap.mp h;obtain ⟨t,ht,rfl⟩:=List.mem_map.mp h;obtain ⟨a,b⟩:=GE hx;refine ⟨by simp [a],fun y hy=>?_⟩;rcases List.mem_append.mp hy with hy | hy
  ·exact b y hy
  ·rw [List.mem_singleton] at hy;subst hy;simpa using ht
theorem MS {n:Nat} (q:List Nat->Bool) (hq:∀ r t,q (r++[t])=true->q r=true):∀ L:List (List Nat),(ext (L.filter q) n).filter q=(ext L n).filter q
 | []=>rfl
 | x::L=>by
  have ih:=MS (n:=n) q hq L;unfold ext at ih ⊢;cases h:q x with
  | true=>rw [List.filter_cons_of_pos h,List.flatMap_cons,List.flatMap_cons,List.filter_append,List.filter_append,ih]
  | false =>
   rw [List.filter_cons_of_neg (by simp [h]),List.flatMap_cons,List.filter_append,ih];have:((List.range n).map fun t=>x++[t]).filter q=[]:=by
    rw [List.filter_eq_nil_iff];intro y hy hq';obtain ⟨t,_,rfl⟩:=List.mem_map.mp hy;rw [hq x t hq'] at h;cases h
   rw [this,List.nil_append]
theorem KB {α:Type} (g:Dv->Dv->Option Dv) (f:α->Dv) (h:α->List Dv) (B:Nat):∀ (xs:List α) (acc:List Dv),(∀ x∈xs,∀ acc,acc.length+(h x).length<=B->g (f x) (.lst acc)=some (.lst (acc++h x)))->acc.length+(xs.flatMap h).length<=B->Cm g (xs.map f) (.lst acc)=some (.lst (acc++xs.flatMap h))
 | [],acc,_,_=>by simp [Cm]
 | x::xs,acc,hg,hl=>by
  rw [List.flatMap_cons,List.length_append] at hl;simp only [List.map_cons,Cm,hg x List.mem_cons_self acc (by omega),Option.bind_some];rw [KB g f h B xs (acc++h x) (fun y hy=>hg y (List.mem_cons_of_mem _ hy)) (by rw [List.length_append];omega),List.flatMap_cons,List.append_assoc]
theorem Rc {xs ys:List Dv} (h:xs.length+ys.length<=1000000):IH (.lst xs) (.lst ys)=some (.lst (xs++ys)):=by simp only [IH,if_pos h]
theorem aU {r:List Nat} {t:Nat} (h:r.length<=1000):Bm (tI r) (.tup [.int (t:Nat)])=some (tI (r++[t])):=by
 unfold tI;rw [YI];simp only [Bm,Cj];rw [if_pos (by simp;omega)];rfl
theorem RS {L:List (List Nat)} {n:Nat} (hn:n<=1000) (hr:∀ r∈L,r.length<=1000) (hl:L.length * n<=1000000):Br (.lst (L.map tI)) (.int (n:Nat))=some (.lst ((ext L n).map tI)):=by
 have e:L.flatMap (fun r=>(List.range n).map fun t=>tI (r++[t]))=(ext L n).map tI:=by simp only [ext,List.map_flatMap,List.map_map,Function.comp_def]
 have:=KB (Ce (.int (n:Nat))) tI (fun r=>(List.range n).map fun t=>tI (r++[t])) 1000000 L [] (fun r hr' acc hb=>by
  have m:=Jz (Cc (tI r)) (fun t:Nat=>Dv.int (t:Nat)) (fun t=>tI (r++[t])) (List.range n) fun t _=>by
   simp only [Cc,aU (hr r hr'),Option.bind_some]
  simp only [List.length_map,List.length_range] at hb;unfold Ce;rw [Js n (by omega)];simp only [Option.bind_some];rw [CK (by simp;omega),m];simp only [Option.bind_some,Rc (show acc.length+((List.range n).map fun t=>tI (r++[t])).length<=1000000 by simp;omega)]) (by rw [e,List.length_map,LM];simpa using hl)
 unfold Br;simp only [Ak,Bg,Option.bind_some];rw [this,e];rfl
noncomputable def bh (L:List (List Nat)) (n:Nat):List (List Nat×Nat):=L.flatMap fun r=>(List.range n).map fun t=>(r,t)
theorem Oy (n:Nat):∀ L:List (List Nat),(bh L n).length=L.length * n
 | []=>by simp [bh]
 | x::L=>by have:=Oy n L;unfold bh at this ⊢;rw [List.flatMap_cons,List.length_append,this,List.length_cons,Nat.add_mul];simp;omega
theorem WA {L:List (List Nat)} {n:Nat} (hn:n<=1000) (hl:L.length * n<=1000000):Ci (.lst (L.map tI)) (.int (n:Nat))=some (.lst ((bh L n).map fun p=>.tup [tI p.1,.int (p.2:Nat)])):=by
 have e:L.flatMap (fun r=>(List.range n).map fun t=>Dv.tup [tI r,.int (t:Nat)])=(bh L n).map fun p=>.tup [tI p.1,.int (p.2:Nat)]:=by simp only [bh,List.map_flatMap,List.map_map,Function.comp_def]
 have:=KB (Da (.int (n:Nat))) tI (fun r=>(List.range n).map fun t=>Dv.tup [tI r,.int (t:Nat)]) 1000000 L [] (fun r hr' acc hb=>by
  have m:=Jz (Ed (tI r)) (fun t:Nat=>Dv.int (t:Nat)) (fun t=>Dv.tup [tI r,.int (t:Nat)]) (List.range n) fun t _=>rfl
  simp only [List.length_map,List.length_range] at hb;unfold Da;rw [Js n (by omega)];simp only [Option.bind_some];rw [CK (by simp;omega),m];simp only [Option.bind_some,Rc (show acc.length+((List.range n).map fun t=>Dv.tup [tI r,.int (t:Nat)]).length<=1000000 by simp;omega)]) (by rw [e,List.length_map,Oy];simpa using hl)
 unfold Ci;simp only [Ak,Bg,Option.bind_some];rw [this,e];rfl
theorem MR {P:Nat->Dv->Prop} (g:Dv->Dv->Option Dv) (n:Nat) (c:Dv) (h0:P 0 c) (h:∀ i < n,∀ c,P i c->∃ c',g (.int (i:Nat)) c=some c'/\P (i+1) c'):∃ c',Cm g ((List.range n).map fun k=>.int (k:Nat)) c=some c'/\P n c':=by
 obtain ⟨c',e,p⟩:=Jc g P ((List.range n).map fun k=>.int (k:Nat)) 0 c h0 fun i x hx c hc=>by
  rw [List.getElem?_map] at hx;have hi:i < n:=by
   rcases Nat.lt_or_ge i n with h | h
   ·exact h
   ·rw [List.getElem?_eq_none (by simp;omega)] at hx;cases hx
  rw [List.getElem?_eq_getElem (by simp;omega)] at hx;simp only [Option.map_some,Option.some.injEq,List.getElem_range] at hx;subst hx;rw [Nat.zero_add] at hc ⊢;exact h i hi c hc
 exact ⟨c',e,by simpa using p⟩
theorem VV {n m:Nat} (hn:n<=4) (hm:m<=4):HV (.int (n:Nat)) (.int (m:Nat))=some (.lst ((rows n m).map tI)):=by
 obtain ⟨c,e,rfl⟩:=MR (P:=fun i c=>c=.lst ((rows n i).map tI)) (HS (.int (n:Nat))) m (.lst [.tup []]) rfl fun i hi c hc=>by
  subst hc;have hf:=JS hn (show i<=4 by omega);have hl:(rows n i).length * n<=1000000:=Nat.le_trans (Nat.mul_le_mul hf hn) (by decide);refine ⟨_,?_,rfl⟩;have e:(bh (rows n i) n).map (fun p=>tI (p.1++[p.2]))=(rows n (i+1)).map tI:=by
   simp only [rows,ext,bh,List.map_flatMap,List.map_map,Function.comp_def]
  have m:=Jz HP (fun p:List Nat×Nat=>Dv.tup [tI p.1,.int (p.2:Nat)]) (fun p=>tI (p.1++[p.2])) (bh (rows n i) n) fun p hp=>by
   have:p.1.length<=1000:=by
    obtain ⟨r,hr,hp⟩:=List.mem_flatMap.mp hp;obtain ⟨t,_,rfl⟩:=List.mem_map.mp hp;have:=(GE hr).1;show r.length<=1000;omega
   simp only [HP,SD,Option.bind_some,aU this]
  unfold HS;rw [WA (by omega) hl];simp only [Option.bind_some,Ak,Bg];rw [CK (by rw [List.length_map,Oy];exact hl),m,e];rfl
 unfold HV;rw [Js m (by omega)];simp only [Option.bind_some];rw [e];rfl
theorem HX {α:Type} (g:Dv->Option (Option Dv)) (f:α->Dv) (q:α->Bool):∀ (xs:List α),(∀ x∈xs,g (f x)=some (if q x=true then some (f x) else none))->NR g (xs.map f)=some ((xs.filter q).map f)
 | [],_=>rfl
 | x::xs,h=>by
  have ih:=HX g f q xs fun y hy=>h y (List.mem_cons_of_mem _ hy)
  simp only [List.map_cons,NR,h x List.mem_cons_self,ih,Option.bind_some];cases e:q x with
  | true=>rw [List.filter_cons_of_pos e];rfl
  | false=>rw [List.filter_cons_of_neg (by simp [e])];rfl
section
variable {n1 n2 nf:Nat} {ds:List Dv} {one oth fx:Dv} {cs es:List Nat} {T U:List Dv}
theorem jE:la cs es ds T U []=true:=by
 unfold la;rw [Bool.and_eq_true,List.all_eq_true,List.all_eq_true];refine ⟨fun z _=>?_,fun z _=>?_⟩
 ·unfold Kk;split
  ·simp [NP]
  ·rfl
 ·unfold FB;split
  ·split<;>rfl
  ·rfl
theorem Ss (W1:Wl n1 nf ds one cs T) (W2:Wl n2 nf ds oth es U) (h1:n1<=4) (h2:n2<=4):GW (.tup [fx,.tup ds]) one oth=some (.lst (((rows n2 n1).filter (la cs es ds T U)).map tI)):=by
 obtain ⟨c,e,rfl⟩:=MR (P:=fun i c=>c=.lst (((rows n2 i).filter (la cs es ds T U)).map tI)) (HR (.tup [fx,.tup ds]) one oth) n1 (.lst [.tup []]) (by simp only [rows];rw [List.filter_cons_of_pos jE];rfl) fun i hi c hc=>by
  subst hc;have hf:=JS h2 (show i<=4 by omega);have hfl:((rows n2 i).filter (la cs es ds T U)).length<=256:=Nat.le_trans (List.length_filter_le _ _) hf;have hl:((rows n2 i).filter (la cs es ds T U)).length * n2<=1000000:=Nat.le_trans (Nat.mul_le_mul hfl h2) (by decide);refine ⟨_,?_,rfl⟩;have rm:∀ r∈ext ((rows n2 i).filter (la cs es ds T U)) n2,r.length=i+1/\∀ t∈r,t < n2:=fun r hr=>by
   have:r∈rows n2 (i+1):=by
    unfold rows ext;unfold ext at hr;obtain ⟨x,hx,h⟩:=List.mem_flatMap.mp hr;exact List.mem_flatMap.mpr ⟨x,(List.mem_filter.mp hx).1,h⟩
   exact GE this
  have m:=HX (HM (.tup [fx,.tup ds]) one oth) tI (la cs es ds T U) (ext ((rows n2 i).filter (la cs es ds T U)) n2) fun r hr=>by
   obtain ⟨a,b⟩:=rm r hr;unfold HM;rw [MG (fx:=fx) W1 W2 (show r.length<=n1 by omega) (by omega) b];simp only [Option.bind_some];split<;>rfl
  unfold HR;rw [W2.w0];simp only [Option.bind_some];rw [RS (by omega) (fun r hr=>by have:=(GE (List.mem_filter.mp hr).1).1;omega) hl];simp only [Option.bind_some,Ak,Bg];rw [CK (by rw [List.length_map,LM];exact hl),m,MS (la cs es ds T U) (fun r t h=>ly h)];rfl
 unfold GW;rw [W1.w0];simp only [Option.bind_some];rw [Js n1 (by omega)];simp only [Option.bind_some];rw [e];rfl
theorem NY (hnf:nf<=1000) (W1:Wl n1 nf ds one cs T) (W2:Wl n2 nf ds oth es U) (h1:n1<=4) (h2:n2<=4):CN (.tup [fx,.tup ds]) one oth=some (.lst (((rows n2 n1).filter (la cs es ds T U)).map tI)):=by
 have hf:=JS h2 h1;have m:=HX (DZ (.tup [fx,.tup ds]) one oth) tI (la cs es ds T U) (rows n2 n1) fun r hr=>by
  obtain ⟨a,b⟩:=GE hr;unfold DZ;rw [MI (fx:=fx) hnf W1 W2 a (by omega) b];simp only [Option.bind_some];split<;>rfl
 unfold CN;rw [W2.w0,W1.w0];simp only [Option.bind_some];rw [VV h2 h1];simp only [Option.bind_some,Ak,Bg];rw [CK (by rw [List.length_map];omega),m];rfl
end
def SH (xs:List Dv):Prop:=∀ y∈xs,∃ i:Int,y=.int i
theorem LC (ts:List Nat):SH (nI ts):=fun y hy=>by obtain ⟨t,_,rfl⟩:=List.mem_map.mp hy;exact ⟨_,rfl⟩
theorem bE (x1 x2 x3:Dv):Dm x1 x2 x3=JQ x1 x2 x3:=by
 unfold Dm JQ;rfl
section
variable {n1 n2 nf:Nat} {ds:List Dv} {one oth fx:Dv} {cs es:List Nat} {T U:List Dv}
noncomputable def kL (n:Nat) (y:Dv):Bool:=match y with | .int i=>decide (0<=i) && decide (i < n) | _=>false
theorem bC {xs:List Dv} (W1:Wl n1 nf ds one cs T) (W2:Wl n2 nf ds oth es U) (hx:SH xs) (hl:xs.length<=1000):Dm one oth (.tup xs)=some (!(decide (xs.length=n1) && xs.all (kL n2))):=by
 obtain ⟨ps,e,hp⟩:=Pe (GA oth) (fun x=>x) (kL n2) xs (by omega) fun y hy=>by
  obtain ⟨i,rfl⟩:=hx y hy;have t1:Fm oth (.int i)=some (kL n2 (.int i)):=by
   unfold Fm kL;simp only [dC,Option.bind_some]
   by_cases h:0<=i
   ·simp only [h,decide_true,if_true,W2.w0,Option.bind_some,FI,Bool.true_and]
   ·simp only [h,decide_false,Bool.false_eq_true,if_false,Bool.false_and]
  unfold GA;rw [t1];rfl
 rw [List.map_id'] at e;have l1:Dx (.tup xs)=some (.int (xs.length:Nat)):=rfl;have i1:Ak (.tup xs)=some xs:=rfl;unfold Dm;simp only [l1,W1.w0,i1,e,hp,Option.bind_some,LP,Ji]
 by_cases h:xs.length=n1
 ·simp only [h,decide_true,Bool.not_true,Bool.false_eq_true,if_false,Bool.true_and]
 ·simp only [h,decide_false,Bool.not_false,if_true,Bool.false_and]
theorem YQ {xs:List Dv} (hnf:nf<=1000) (hn:n1<=1000) (W1:Wl n1 nf ds one cs T) (W2:Wl n2 nf ds oth es U) (hx:SH xs) (hl:xs.length<=1000):∃ b,EA (.tup [fx,.tup ds]) one oth (.tup xs)=some b/\IQ (.tup [fx,.tup ds]) one oth (.tup xs)=some b:=by
 have h1:=bC W1 W2 hx hl;have h2:=h1;rw [bE] at h2;unfold EA IQ;rw [h1,h2];simp only [Option.bind_some];cases h:(decide (xs.length=n1) && xs.all (kL n2)) with
 | false=>exact ⟨false,rfl,rfl⟩
 | true =>
  rw [Bool.and_eq_true,decide_eq_true_eq,List.all_eq_true] at h;obtain ⟨ts,rfl,ht⟩:=OZ (n:=n2) (xs:=xs) fun y hy=>by
   obtain ⟨i,rfl⟩:=hx y hy;have:=h.2 _ hy;unfold kL at this;simp only [Bool.and_eq_true,decide_eq_true_eq] at this;exact ⟨i.toNat,by congr 1;omega,by omega⟩
  rw [Cj] at h;have a:=MG (fx:=fx) W1 W2 (show ts.length<=n1 by omega) hn ht;have b:=MI (fx:=fx) hnf W1 W2 h.1 hn ht;unfold tI at a b;simp only [Bool.not_true,Bool.false_eq_true,if_false];rw [a,b];exact ⟨_,rfl,rfl⟩
theorem aM (b:Bool):WU (.bl b) (.bl b)=some false:=by cases b<;>rfl
theorem de {xs:List Dv} (hnf:nf<=1000) (hn:n1<=1000) (W1:Wl n1 nf ds one cs T) (W2:Wl n2 nf ds oth es U) (hx:SH xs) (hl:xs.length<=1000):Jr (.tup [fx,.tup ds]) one oth (.tup xs) ()=some (.go ())/\Il (.tup [fx,.tup ds]) one oth (.tup xs) ()=some (.go ()):=by
 obtain ⟨b,e1,e2⟩:=YQ (fx:=fx) hnf hn W1 W2 hx hl
 have i1:Jl (.bl b) (.ty "bool")=some true:=rfl
 have t1:Li (.tup [fx,.tup ds]) one oth (.tup xs) (.bl b)=some false:=by
  unfold Li;rw [i1];simp only [Option.bind_some,Bool.not_true,Bool.false_eq_true,if_false];rw [e2];simp only [Option.bind_some,aM]
 have t3:Lg (.tup [fx,.tup ds]) one oth (.tup xs) (.bl b)=some false:=by
  unfold Lg;rw [i1];simp only [Option.bind_some,Bool.not_true,Bool.false_eq_true,if_false];rw [e2];simp only [Option.bind_some,aM]
 refine ⟨?_,?_⟩
 ·unfold Jr;rw [e1];simp only [Option.bind_some];rw [t1];rfl
 ·unfold Il;rw [e1];simp only [Option.bind_some];rw [t3];rfl
theorem Ry:∀ R:List (List Nat),DX (R.map tI)=true/\DW (R.map tI)<=1/\Q.eqVs (R.map tI) (R.map tI)=true
 | []=>⟨rfl,by decide,rfl⟩
 | r::R=>by
  obtain ⟨a,b,c⟩:=Ry R;simp only [List.map_cons,DX,DW,Q.eqVs,a,c,tI,Dv.cmp,Dv.dep,JM,JL,Q.eqV,Pt,decide_true,Bool.and_self];exact ⟨trivial,by omega,trivial⟩
theorem kY {R:List (List Nat)} {x:Dv} (hm:GW (.tup [fx,.tup ds]) one oth=some (.lst (R.map tI))) (hR:R.length<=1000) (hr:∀ r∈R,r.length<=1000):Im (.tup [fx,.tup ds]) one oth (.lst (R.map tI)) x ()=some (.go ()):=by
 obtain ⟨c1,c2,c3⟩:=Ry R;have b1:WU (.lst (R.map tI)) (.lst (R.map tI))=some false:=by
  simp only [SB,Dv.cmp,Dv.dep,c1,Bool.and_self,if_true,Q.eqV,c3,Bool.not_true];rw [if_pos (by rw [Bool.true_and];exact decide_eq_true (by omega))]
 have w:FK (.lst (R.map tI))=some true:=by
  unfold FK;simp only [Ak,Bg,Option.bind_some];rw [ID GB () (R.map tI) fun z hz=>by
   obtain ⟨r,hr',rfl⟩:=List.mem_map.mp hz;obtain ⟨ps,e,hp⟩:=Vt (g:=Hv) (xs:=nI r) (by rw [Cj];have:=hr r hr';omega) fun y hy=>by
    obtain ⟨i,rfl⟩:=LC r y hy;rfl
   have i1:Jl (tI r) (.ty "tuple")=some true:=rfl
   have i2:Ak (tI r)=some (nI r):=rfl;have t1:Fo (tI r)=some false:=by
    unfold Fo;rw [i1];simp only [Option.bind_some,Bool.not_true,Bool.false_eq_true,if_false];rw [i2];simp only [Option.bind_some,e,hp,Bool.not_true]
   unfold GB;rw [t1];rfl]
  rfl
 have i1:Jl (.lst (R.map tI)) (.ty "list")=some true:=rfl
 have t2:Lh (.lst (R.map tI)) (.lst (R.map tI))=some false:=by
  unfold Lh;rw [i1];simp only [Option.bind_some,Bool.not_true,Bool.false_eq_true,if_false];rw [b1];simp only [Option.bind_some,Bool.false_eq_true,if_false];rw [w];rfl
 unfold Im;rw [hm];simp only [Option.bind_some];rw [t2];simp only [Option.bind_some,Bool.false_eq_true,if_false,BP];rw [if_pos (by rw [List.length_map];omega)];rfl
end
theorem Qf {γ:Type} (t:γ->Option Bool) (g:γ->Option γ) (P:Nat->γ->Prop) (h0:∀ c,P 0 c->t c=some false) (hs:∀ m c,P (m+1) c->t c=some true/\∃ c',g c=some c'/\P m c'):∀ (m n:Nat) (c:γ),m < n->P m c->∃ c',ar t g n c=some c'/\P 0 c'
 | m,0,c,h,_=>by omega
 | 0,n+1,c,_,p=>⟨c,by simp only [ar,h0 c p,Option.bind_some,Bool.false_eq_true,if_false],p⟩
 | m+1,n+1,c,h,p=>by
  obtain ⟨e1,c1,e2,p1⟩:=hs m c p;obtain ⟨c2,e3,p2⟩:=Qf t g P h0 hs m n c1 (by omega) p1;exact ⟨c2,by simp only [ar,e1,Option.bind_some,if_true,e2,e3],p2⟩
theorem Xo {ts:List Nat} {r:Nat} (h:r < ts.length) (hl:ts.length<=1000):KN (.lst (nI ts)) (.int (r:Nat))=some (.int (ts.getD r 0:Nat),.lst (nI (ts.eraseIdx r))):=by
 have s:seqIndex? (r:Int) (nI ts).length=some r:=by
  unfold seqIndex?;rw [Cj];have h1:¬ (r:Int) < 0:=by omega
  have h2:(0:Int)<=(r:Int):=by omega
  have h3:(r:Int) < (ts.length:Int):=by omega
  simp only [h1,if_false,h2,h3,decide_true,Bool.and_self,if_true,Int.toNat_natCast]
 have g:(nI ts)[r]?=some (.int (ts.getD r 0:Nat)):=by simp [nI,List.getD,h]
 have e:(nI ts).eraseIdx r=nI (ts.eraseIdx r):=by simp only [nI,List.eraseIdx_eq_take_drop_succ,List.map_append,List.map_take,List.map_drop]
 simp only [KN];rw [if_pos (by constructor<;>omega),s];simp only [Option.bind_some,g,Option.map_some,e]
theorem Zg {ts:List Nat} {r x:Nat} (hr:r < ts.length) (h:x∈ts):x∈ts.eraseIdx r\/x=ts.getD r 0:=by
 obtain ⟨i,hi,rfl⟩:=List.mem_iff_getElem.mp h
 by_cases e:i=r
 ·subst e;right;simp [List.getD,hi]
 ·left;rw [List.mem_eraseIdx_iff_getElem];exact ⟨i,hi,e,rfl⟩
def nT (n:Nat) (ts:List Nat):Prop:=ts.length=n/\(∀ t∈ts,t < n)/\∀ t < n,t∈ts
theorem bN {x0 x1 t1 t9:Dv} {c8:Dv×Dv×Dv} (h1:Ep x1=some t1) (h2:ar BU BV SI (x0,t1,.lst [])=some c8) (h3:Av c8.2.2=some t9):Be x0 x1=some (t9,c8.1):=by
 unfold Be;simp only [h1,h2,h3,Option.bind_some]
theorem Yq (ts:List Nat):Dx (.lst (nI ts))=some (.int (ts.length:Nat)):=by show some (Dv.int ((nI ts).length:Nat))=_;rw [Cj]
theorem XI (f:Dv) (left found:List Nat):BU (f,.lst (nI left),.lst (nI found))=some (decide (0 < left.length)):=by
 unfold BU;simp only [Yq,Option.bind_some,FI];congr 1;exact decide_eq_decide.mpr (by omega)
theorem ND {xs:List Dv} {y:Dv} (h:xs.length<=1000000):BP (.lst xs) y=some (.lst (xs++[y])):=by simp only [BP,if_pos h]
theorem XM {c1 c2 c3 t2 r f' y l' l2:Dv} (h2:Dx c2=some t2) (h3:AL c1 t2=some (r,f')) (h4:KN c2 r=some (y,l')) (h5:BP c3 y=some l2):BV (c1,c2,c3)=some (f',l',l2):=by
 unfold BV;simp only [h2,h3,h4,h5,Option.bind_some]
theorem gq {f:Dv} (hf:Fd f) {left found:List Nat} (h0:0 < left.length) (hl:left.length<=1000) (hl2:found.length<=1000):∃ (r:Nat) (f':Dv),BV (f,.lst (nI left),.lst (nI found))=some (f',.lst (nI (left.eraseIdx r)),.lst (nI (found++[left.getD r 0])))/\r < left.length/\Fd f':=by
 obtain ⟨r,f',e,b,hf'⟩:=Ah hf (n:=((left.length:Nat):Int)) (by omega) (by omega);have hr:r < left.length:=by omega
 refine ⟨r,f',?_,hr,hf'⟩;have e2:BP (.lst (nI found)) (.int (left.getD r 0:Nat))=some (.lst (nI (found++[left.getD r 0]))):=by
  rw [ND (by rw [Cj];omega),YI];rfl
 exact XM (Yq left) e (Xo hr hl) e2
def mw (n m:Nat) (c:Dv×Dv×Dv):Prop:=∃ f left found,c=(f,.lst (nI left),.lst (nI found))/\Fd f/\left.length=m/\found.length+m=n/\(∀ t < n,t∈left\/t∈found)/\(∀ t∈left,t < n)/\∀ t∈found,t < n
theorem bM {n m:Nat} (hn:n<=1000) {c:Dv×Dv×Dv} (h:mw n (m+1) c):BU c=some true/\∃ c',BV c=some c'/\mw n m c':=by
 obtain ⟨f,left,found,rfl,hf,hl,h1,h2,h3,h4⟩:=h;refine ⟨by rw [XI,decide_eq_true (by omega)],?_⟩;obtain ⟨r,f',e,hr,hf'⟩:=gq hf (left:=left) (found:=found) (by omega) (by omega) (by omega);refine ⟨_,e,f',left.eraseIdx r,found++[left.getD r 0],rfl,hf',by rw [List.length_eraseIdx_of_lt hr];omega,by simp;omega,fun t ht=>?_,fun t ht=>h3 t (List.mem_of_mem_eraseIdx ht),fun t ht=>?_⟩
 ·rcases h2 t ht with h | h
  ·rcases Zg hr h with h | h
   ·exact .inl h
   ·exact .inr (by rw [h];simp)
  ·exact .inr (List.mem_append_left _ h)
 ·rcases List.mem_append.mp ht with h | h
  ·exact h4 t h
  ·rw [List.mem_singleton] at h;rw [h];exact h3 _ (getD_mem hr)
theorem XJ {n:Nat} {c:Dv×Dv×Dv} (h:mw n 0 c):BU c=some false:=by
 obtain ⟨f,left,found,rfl,hf,hl,h1⟩:=h;rw [XI,decide_eq_false (by omega)]
theorem bL {n N:Nat} (hn:n<=1000) (hN:n < N) {f:Dv} (hf:Fd f):∃ c',ar BU BV N (f,.lst (nI (List.range n)),.lst [])=some c'/\mw n 0 c':=
 Qf BU BV (mw n) (fun _ h=>XJ h) (fun _ _ h=>bM hn h) n N _ hN ⟨f,List.range n,[],rfl,hf,by simp,by simp,fun t ht=>.inl (by simpa using ht),fun t ht=>by simpa using ht,fun t h=>by cases h⟩
theorem IP {f:Dv} (hf:Fd f) {n:Nat} (hn:n<=1000):∃ ts f',Be f (.int (n:Nat))=some (tI ts,f')/\nT n ts/\Fd f':=by
 obtain ⟨c,e,f',left,found,rfl,hf',hl,h1,h2,h3,h4⟩:=bL (N:=SI) hn (Nat.lt_of_le_of_lt hn (by decide)) hf;have hl':left=[]:=List.eq_nil_of_length_eq_zero hl;subst hl';have r1:Ep (.int (n:Nat))=some (.lst (nI (List.range n))):=by
  have sm:Q.small (n:Int)=true:=by unfold Q.small;simp;omega
  simp only [Ep];rw [if_pos ⟨sm,by omega⟩];simp [nI]
 exact ⟨found,f',bN r1 e rfl,⟨by omega,h4,fun t ht=>(h2 t ht).resolve_left (by simp)⟩,hf'⟩
theorem SQ {ts:List Nat} {h:Nat} (hh:h < ts.length):AN (.lst (nI ts)) (.int (h:Nat))=some (.int (ts.getD h 0:Nat)):=Gq hh
theorem ZT {t:Nat}:∀ {ts:List Nat},t∈ts->∃ j,RZ (.int (t:Nat)) (nI ts)=some j/\j < ts.length
 | [],h=>by cases h
 | x::xs,h=>by
  simp only [nI,List.map_cons,RZ,Q.eqV]
  by_cases e:x=t
  ·subst e;exact ⟨0,by simp,by simp⟩
  ·obtain ⟨j,q,hj⟩:=ZT (ts:=xs) ((List.mem_cons.mp h).resolve_left fun z=>e z.symm);have:((x:Int) == (t:Int))=false:=beq_eq_false_iff_ne.mpr (by omega);simp only [nI] at q;exact ⟨j+1,by simp only [this,Bool.false_eq_true,if_false,q,Option.map_some],by simp;omega⟩
theorem gs {n:Nat} (g:Dv->Option Dv) (hn:n<=1000) (h:∀ k < n,∃ r:Nat,g (.int (k:Nat))=some (.int (r:Nat))/\r < n):∃ ts:List Nat,Gu ((List.range n).map fun k=>Dv.int (k:Nat)) (Cv g ((List.range n).map fun k=>.int (k:Nat)))=some (nI ts)/\ts.length=n/\∀ t∈ts,t < n:=by
 obtain ⟨xs,e,hl,hx⟩:=GH g (fun d=>∃ r:Nat,d=.int r/\r < n) ((List.range n).map fun k=>.int (k:Nat)) fun x hx=>by
  obtain ⟨k,hk,rfl⟩:=List.mem_map.mp hx;obtain ⟨r,e,hr⟩:=h k (by simpa using hk);exact ⟨_,e,r,rfl,hr⟩
 obtain ⟨ts,rfl,ht⟩:=OZ hx;rw [Cj] at hl;exact ⟨ts,by rw [CK (by simp;omega),e],by simpa using hl,ht⟩
theorem YX {n:Nat} {ts:List Nat} (hl:ts.length=n) (h:∀ t∈ts,t < n):Row n (tI ts):=⟨nI ts,rfl,by rw [Cj];exact hl,iw h⟩
theorem bS {n:Nat} {ts sp:List Nat} {a t:Dv} {r:Int} (hn:n<=1000) (p:nT n ts) (hs:sp.length=n) (hs2:∀ t∈sp,t < n) (hr:r=1\/r=2) (ht:Tab n r t) (acc:List Dv) (hacc:acc.length<=1000) :
    ∃ u,Cg (tI ts) (.int (n:Nat)) (.lst (nI sp)) (.tup [.tup [a,.int r],t]) (.lst acc)=some (.lst (acc++[u]))/\WX n (.tup [a,.int r]) u:=by
  have i1:AN (.tup [a,.int r]) (.int 1)=some (.int r):=rfl;have rg:=Js n (by omega);have spa:∀ k < n,sp.getD k 0 < n:=fun k hk=>hs2 _ (getD_mem (by omega))
  rcases hr with rfl | rfl
  · obtain ⟨xs,e,hl,hx⟩:=gs (EH (tI ts) (.lst (nI sp)) t) hn fun k hk=>by
      obtain ⟨e1,b1⟩:=FL ht.one (spa k hk);refine ⟨_,?_,p.2.1 _ (getD_mem (show JK t (sp.getD k 0) < ts.length by rw [p.1];exact b1))⟩;simp only [EH,SQ (show k < sp.length by omega),e1,Gq (show JK t (sp.getD k 0) < ts.length by rw [p.1];exact b1),Option.bind_some]
    refine ⟨tI xs,?_,a,1,rfl,.inl rfl,.inl ⟨rfl,YX hl hx⟩⟩;unfold Cg;simp only [SD,Option.bind_some,i1,CC,decide_true,if_true,rg,e,Av,BP];rw [if_pos (by omega)];rfl
  · have inner:∀ a' < n,∃ u,DT (tI ts) (.int (n:Nat)) (.lst (nI sp)) t (.int (a':Nat))=some u/\Row n u:=fun a' ha=>by
      obtain ⟨e1,r1⟩:=JN ht.two (spa a' ha);obtain ⟨xs,e,hl,hx⟩:=gs (EG (tI ts) (.lst (nI sp)) t (.int (a':Nat))) hn fun k hk=>by
        obtain ⟨e2,b2⟩:=FL r1 (spa k hk);refine ⟨_,?_,p.2.1 _ (getD_mem (show JK (sub t (sp.getD a' 0)) (sp.getD k 0) < ts.length by rw [p.1];exact b2))⟩;simp only [EG,SQ (show a' < sp.length by omega),SQ (show k < sp.length by omega),e1,e2,Gq (show JK (sub t (sp.getD a' 0)) (sp.getD k 0) < ts.length by rw [p.1];exact b2),Option.bind_some]
      refine ⟨tI xs,?_,YX hl hx⟩;unfold DT;simp only [rg,Option.bind_some,e,Av];rfl
    obtain ⟨us,e,hl,hu⟩:=GH (DT (tI ts) (.int (n:Nat)) (.lst (nI sp)) t) (Row n) ((List.range n).map fun k=>.int (k:Nat)) fun x hx=>by
      obtain ⟨k,hk,rfl⟩:=List.mem_map.mp hx;exact inner k (by simpa using hk)
    refine ⟨.tup us,?_,a,2,rfl,.inr rfl,.inr ⟨rfl,us,rfl,by simpa using hl,hu⟩⟩;unfold Cg;simp only [SD,Option.bind_some,i1,CC,show decide ((2:Int)=1)=false by decide,Bool.false_eq_true,if_false,rg];rw [CK (by simp;omega),e];simp only [Option.bind_some,Av,BP];rw [if_pos (by omega)];rfl
theorem Qn {n:Nat} {ts sp:List Nat} (hn:n<=1000) (p:nT n ts) (hs:sp.length=n) (hs2:∀ t∈sp,t < n):∀ {ds T:List Dv} (acc:List Dv),Paired (WX n) ds T->acc.length+T.length<=1000->∃ T',Cm (Cg (tI ts) (.int (n:Nat)) (.lst (nI sp))) (CV ds T) (.lst acc)=some (.lst (acc++T'))/\Paired (WX n) ds T'
 | _,_,acc,.nil,_=>⟨[],by simp [CV,Cm],.nil⟩
 | _,_,acc,.cons (l₁:=ds) (l₂:=T) q r,hl=>by
  rw [List.length_cons] at hl;obtain ⟨a,rr,rfl,hr,ht⟩:=q;obtain ⟨u,e1,hu⟩:=bS (a:=a) hn p hs hs2 hr ht acc (by omega);obtain ⟨T',e2,hT⟩:=Qn hn p hs hs2 (acc++[u]) r (by rw [List.length_append];simp;omega);exact ⟨u::T',by simp only [CV,Cm,e1,Option.bind_some,e2,List.append_assoc,List.singleton_append],.cons hu hT⟩
section
variable {n nf:Nat} {ds:List Dv} {w fx:Dv} {cs:List Nat} {T:List Dv}
theorem JT {ts:List Nat} (hn:n<=1000) (hnf:nf<=1000) (hd:ds.length<=1000) (W:Wl n nf ds w cs T) (p:nT n ts):∃ w' cs' T',CD (.tup [fx,.tup ds]) w (tI ts)=some w'/\Wl n nf ds w' cs' T':=by
 have j1:AN (.tup [fx,.tup ds]) (.int 1)=some (.tup ds):=rfl;have z2:OW (.tup ds) (.tup T)=some (CV ds T):=rfl;have i1:Ak (tI cs)=some (nI cs):=rfl;have rg:=Js n (by omega);obtain ⟨sp,e1,hs,hs2⟩:=gs (EI (tI ts)) hn fun k hk=>by
  obtain ⟨j,q,hj⟩:=ZT (p.2.2 k hk);refine ⟨j,?_,by rw [<- p.1];exact hj⟩;have:FU (tI ts) (.int (k:Nat))=some (.int (j:Nat)):=by
   simp only [FU,tI,Dv.cmp,JM,JL,Bool.and_self,Nat.zero_le,decide_true,if_true,q,Option.map_some]
  unfold EI;rw [this];rfl
 obtain ⟨T',e2,hT⟩:=Qn hn p hs hs2 [] W.2.2.2 (by have:=Q.pair_len W.2.2.2;simp;omega);have m:=Jz (DS (tI ts)) (fun c:Nat=>Dv.int (c:Nat)) (fun c:Nat=>Dv.int (ts.getD c 0:Nat)) cs fun c hc=>by
  simp only [DS,Gq (show c < ts.length by rw [p.1];exact W.2.2.1 c hc),Option.bind_some]
 have m2:Gu (nI cs) (Cv (DS (tI ts)) (nI cs))=some (nI (cs.map fun c=>ts.getD c 0)):=by
  rw [CK (by rw [Cj,W.2.1];omega)];unfold nI;rw [m,List.map_map];rfl
 refine ⟨.tup [.int (n:Nat),tI (cs.map fun c=>ts.getD c 0),.tup T'],cs.map fun c=>ts.getD c 0,T',?_,rfl,by rw [List.length_map];exact W.2.1,fun c hc=>?_,hT⟩
 ·unfold CD;simp only [W.w0,W.w1,W.w2,rg,e1,j1,z2,Option.bind_some];rw [e2];simp only [Option.bind_some,i1,m2,Av];rfl
 ·obtain ⟨x,hx,rfl⟩:=List.mem_map.mp hc;exact p.2.1 _ (getD_mem (by rw [p.1];exact W.2.2.1 x hx))
end
theorem Kw {ys:List Dv} {i:Nat} {z:Dv} (h:i < ys.length):CL (.lst ys) (.int (i:Nat)) z=some (.lst (ys.set i z)):=by
 simp only [CL,Qb];rw [if_pos (by omega),if_pos (by omega)];simp
theorem UG {r m:Nat} (hm:0 < m):GN (.int (r:Nat)) (.int (m:Nat))=some (.int ((r % m:Nat))):=by
 rw [NG _ _ (by omega)];congr 1
theorem ck {x2 it c t9 t18 t19:Dv} (h9:AN c it=some t9) (h10:Jl t9 (.ty "tuple")=some false) (h18:GN t9 x2=some t18) (h19:CL c it t18=some t19):CP x2 it c=some t19:=by
 unfold CP;simp only [h9,h10,h18,h19,Option.bind_some,Bool.false_eq_true,if_false]
theorem cj {x2 it c t9 t15 t16:Dv} {t12 p14:List Dv} (h9:AN c it=some t9) (h10:Jl t9 (.ty "tuple")=some true) (h12:Ak t9=some t12) (h14:Gu t12 (Cv (Fz x2) t12)=some p14) (h15:Av (.lst p14)=some t15) (h16:CL c it t15=some t16):CP x2 it c=some t16:=by
 unfold CP;simp only [h9,h10,h12,h14,h15,h16,Option.bind_some,if_true]
theorem jU {x2 it c t6 t7 c20 t21 t22:Dv} {t8:List Dv} (h6:IZ it=some t6) (h7:Dx t6=some t7) (h8:BY t7=some t8) (h20:Cm (CP x2) t8 t6=some c20) (h21:Av c20=some t21) (h22:BP c t21=some t22):Dc x2 it c=some t22:=by
 unfold Dc;simp only [h6,h7,h8,h20,h21,h22,Option.bind_some]
theorem Rb {n m:Nat} (hm:0 < m) (hmn:m<=n) (hn:n<=1000) {xs:List Dv} (hl:xs.length=n) (Pk:Dv->Prop) (hx:∀ y∈xs,Pk y)
    (hP:∀ y,Pk y->∀ c it t16 z,AN c it=some y->(Pk z->CL c it z=some t16->True)->True)
    (step:∀ (ys:List Dv) (i:Nat),i < ys.length->(∀ y∈ys,Pk y)->∃ z,CP (.int (m:Nat)) (.int (i:Nat)) (.lst ys)=some (.lst (ys.set i z))/\Pk z) :
    ∃ ys,Cm (CP (.int (m:Nat))) ((List.range n).map fun k=>.int (k:Nat)) (.lst xs)=some (.lst ys)/\ys.length=n/\∀ y∈ys,Pk y:=by
  obtain ⟨c,e,ys,rfl,h1,h2⟩:=MR (P:=fun _ c=>∃ ys,c=.lst ys/\ys.length=n/\∀ y∈ys,Pk y) (CP (.int (m:Nat))) n (.lst xs) ⟨xs,rfl,hl,hx⟩ fun i hi c hc=>by
    obtain ⟨ys,rfl,h1,h2⟩:=hc;obtain ⟨z,e,hz⟩:=step ys i (by omega) h2;refine ⟨_,e,ys.set i z,rfl,by rw [List.length_set];exact h1,fun y hy=>?_⟩;rcases List.mem_or_eq_of_mem_set hy with hy | rfl
    · exact h2 y hy
    · exact hz
  exact ⟨ys,e,h1,h2⟩
theorem ZZ {n m:Nat} (hm:0 < m) (hmn:m<=n) (hn:n<=1000) {d t:Dv} (h:WX n d t) (acc:List Dv) (hacc:acc.length<=1000):∃ u,Dc (.int (m:Nat)) t (.lst acc)=some (.lst (acc++[u]))/\WX n d u:=by
  obtain ⟨a,r,rfl,hr,ht⟩:=h;have fin:∀ xs ys:List Dv,t=.tup xs->xs.length=n->Cm (CP (.int (m:Nat))) ((List.range n).map fun k=>.int (k:Nat)) (.lst xs)=some (.lst ys)->Dc (.int (m:Nat)) t (.lst acc)=some (.lst (acc++[.tup ys])):=fun xs ys e hl h20=>by
    subst e;have h7:Dx (.lst xs)=some (.int (n:Nat)):=by show some (Dv.int (xs.length:Nat))=_;rw [hl]
    exact jU (t6:=.lst xs) rfl h7 (Js n (by omega)) h20 rfl (ND (by omega))
  rcases hr with rfl | rfl
  · obtain ⟨xs,rfl,hl,hx⟩:=ht.one;obtain ⟨ys,e,h1,h2⟩:=Rb hm hmn hn hl (fun y=>∃ r:Nat,y=.int r/\r < n) hx (fun _ _ _ _ _ _ _ _=>trivial) fun ys i hi hy=>by
      obtain ⟨y,hy',ey⟩:=SG (xs:=ys) (i:=i) (by omega) (by omega);obtain ⟨r,rfl,hr⟩:=hy y hy';exact ⟨_,ck ey rfl (UG hm) (Kw hi),_,rfl,Nat.lt_of_lt_of_le (Nat.mod_lt _ hm) hmn⟩
    exact ⟨.tup ys,fin xs ys rfl hl e,a,1,rfl,.inl rfl,.inl ⟨rfl,ys,rfl,h1,h2⟩⟩
  · obtain ⟨xs,rfl,hl,hx⟩:=ht.two;obtain ⟨ys,e,h1,h2⟩:=Rb hm hmn hn hl (Row n) hx (fun _ _ _ _ _ _ _ _=>trivial) fun ys i hi hy=>by
      obtain ⟨y,hy',ey⟩:=SG (xs:=ys) (i:=i) (by omega) (by omega);obtain ⟨zs,rfl,hzl,hz⟩:=hy y hy';obtain ⟨us,eu,hul,hu⟩:=GH (Fz (.int (m:Nat))) (fun d=>∃ r:Nat,d=.int r/\r < n) zs fun z hz'=>by
        obtain ⟨r,rfl,hr⟩:=hz z hz';exact ⟨_,by unfold Fz;rw [UG hm];rfl,_,rfl,Nat.lt_of_lt_of_le (Nat.mod_lt _ hm) hmn⟩
      exact ⟨_,cj ey rfl rfl (by rw [CK (by omega),eu]) rfl (Kw hi),us,rfl,by omega,hu⟩
    exact ⟨.tup ys,fin xs ys rfl hl e,a,2,rfl,.inr rfl,.inr ⟨rfl,ys,rfl,h1,h2⟩⟩
theorem OI {n m:Nat} (hm:0 < m) (hmn:m<=n) (hn:n<=1000):∀ {ds T:List Dv} (acc:List Dv),Paired (WX n) ds T->acc.length+T.length<=1000->∃ T',Cm (Dc (.int (m:Nat))) T (.lst acc)=some (.lst (acc++T'))/\Paired (WX n) ds T'
 | _,_,acc,.nil,_=>⟨[],by simp [Cm],.nil⟩
 | _,_,acc,.cons (l₁:=ds) (l₂:=T) q r,hl=>by
  rw [List.length_cons] at hl;obtain ⟨u,e1,hu⟩:=ZZ hm hmn hn q acc (by omega);obtain ⟨T',e2,hT⟩:=OI hm hmn hn (acc++[u]) r (by rw [List.length_append];simp;omega);exact ⟨u::T',by simp only [Cm,e1,Option.bind_some,e2,List.append_assoc,List.singleton_append],.cons hu hT⟩
theorem LB {r:Nat}:Bm (.int 1) (.int (r:Nat))=some (.int ((1+r:Nat))):=by rw [GO];congr 1
theorem cg {x0 x1 t1 r f' t3 c23 t25 t26:Dv} {t5:List Dv} (h1:AN x1 (.int 0)=some t1) (h2:AL x0 t1=some (r,f')) (h3:Bm (.int 1) r=some t3) (h4:AN x1 (.int 2)=some (.tup t5)) (h23:Cm (Dc t3) t5 (.lst [])=some c23) (h25:AN x1 (.int 1)=some t25) (h26:Av c23=some t26):Ex x0 x1=some (.tup [t1,t25,t26],f'):=by
 unfold Ex;have h5:Ak (.tup t5)=some t5:=rfl;simp only [h1,h2,h3,h4,h5,h23,h25,h26,Option.bind_some]
section
variable {n nf:Nat} {ds:List Dv} {w:Dv} {cs:List Nat} {T:List Dv}
theorem OJ {f:Dv} (hf:Fd f) (h0:0 < n) (hn:n<=1000) (hd:ds.length<=1000) (W:Wl n nf ds w cs T):∃ w' T' f',Ex f w=some (w',f')/\Wl n nf ds w' cs T'/\Fd f':=by
 obtain ⟨r,f',e,b,hf'⟩:=Ah hf (n:=((n:Nat):Int)) (by omega) (by omega);obtain ⟨T',e2,hT⟩:=OI (m:=1+r) (by omega) (by omega) hn [] W.2.2.2 (by have:=Q.pair_len W.2.2.2;simp;omega);exact ⟨_,T',f',cg W.w0 e LB W.w2 e2 W.w1 rfl,⟨rfl,W.2.1,W.2.2.1,hT⟩,hf'⟩
end
def dO (n nf:Nat) (ds:List Dv) (w:Dv):Prop:=∃ cs T,Wl n nf ds w cs T
theorem LU {f:Dv} (hf:Fd f) {fs ds:List Dv} {n:Nat} (h0:0 < n) (h1:n<=1000) (hfs:fs.length<=100) (hds:ds.length<=100) (hd:∀ x∈ds,aj 5 x):∃ w f',CW f (.tup [.tup fs,.tup ds]) (.int (n:Nat))=some (w,f')/\dO n fs.length ds w/\Fd f':=by
 obtain ⟨ts,tbs,f',e,hl,ht,p,hf'⟩:=SJ hf (fs:=fs) (ds:=ds) h0 h1 hfs hds fun x hx=>by
  obtain ⟨a,r,rfl,_,hr⟩:=hd x hx;exact ⟨a,r,rfl,hr⟩
 obtain ⟨cs,rfl,hc⟩:=OZ ht;rw [Cj] at hl;exact ⟨_,f',e,⟨cs,tbs,rfl,hl,hc,p⟩,hf'⟩
section
variable {nf:Nat} {ds fs:List Dv}
theorem qe {n:Nat} {f w:Dv} (hf:Fd f) (h0:0 < n) (hn:n<=1000) (hd:ds.length<=1000) (W:dO n nf ds w):∃ w' f',DC f w=some (f',w')/\dO n nf ds w'/\Fd f':=by
 obtain ⟨cs,T,W⟩:=W;obtain ⟨r,f1,e,b,hf1⟩:=Ah hf (n:=2) (by decide) (by decide);unfold DC;simp only [e,Option.bind_some,CC];split
 ·obtain ⟨w',T',f',e2,W',hf'⟩:=OJ hf1 h0 hn hd W;exact ⟨w',f',by rw [e2];rfl,⟨cs,T',W'⟩,hf'⟩
 ·exact ⟨w,f1,rfl,⟨cs,T,W⟩,hf1⟩
theorem qd {n:Nat} {f w:Dv} {r:Int} (hf:Fd f) (h0:0 < n) (hn:n<=1000) (hd:ds.length<=1000) (W:dO n nf ds w):∃ w' f',DB f (.int r) w=some (f',w')/\dO n nf ds w'/\Fd f':=by
 obtain ⟨cs,T,W⟩:=W;unfold DB;simp only [Option.bind_some,CC];split
 ·obtain ⟨w',T',f',e2,W',hf'⟩:=OJ hf h0 hn hd W;exact ⟨w',f',by rw [e2];rfl,⟨cs,T',W'⟩,hf'⟩
 ·exact ⟨w,f,rfl,⟨cs,T,W⟩,hf⟩
theorem Wq {f:Dv} (hf:Fd f) (hfs:fs.length<=100) (hds:ds.length<=100) (hd:∀ x∈ds,aj 5 x):∃ one oth f' n1 n2,Bs f (.tup [.tup fs,.tup ds])=some (.tup [one,oth],f')/\0 < n1/\n1<=4/\dO n1 fs.length ds one/\0 < n2/\n2<=4/\dO n2 fs.length ds oth/\Fd f':=by
 obtain ⟨r1,f1,e1,b1,hf1⟩:=Ah hf (n:=4) (by decide) (by decide);obtain ⟨w,f3,e3,W3,hf3⟩:=LU hf1 (fs:=fs) (ds:=ds) (n:=1+r1) (by omega) (by omega) hfs hds hd;obtain ⟨one,f7,e7,W7,hf7⟩:=qe hf3 (by omega) (by omega) (by omega) W3;obtain ⟨r8,f8,e8,b8,hf8⟩:=Ah hf7 (n:=5) (by decide) (by decide);unfold Bs;simp only [e1,Option.bind_some,LB,e3,e7,e8,CC,FI];split
 ·exact ⟨one,one,f8,1+r1,1+r1,rfl,by omega,by omega,W7,by omega,by omega,W7,hf8⟩
 ·split
  ·obtain ⟨cs,T,W⟩:=W7;obtain ⟨ts,f12,e12,p,hf12⟩:=IP hf8 (n:=1+r1) (by omega);obtain ⟨w',cs',T',e13,W'⟩:=JT (fx:=.tup fs) (ts:=ts) (by omega) (by omega) (by omega) W p;exact ⟨one,w',f12,1+r1,1+r1,by simp only [W.w0,Option.bind_some,e12,e13],by omega,by omega,⟨cs,T,W⟩,by omega,by omega,⟨cs',T',W'⟩,hf12⟩
  ·obtain ⟨r14,f14,e14,b14,hf14⟩:=Ah hf8 (n:=4) (by decide) (by decide);obtain ⟨w2,f16,e16,W16,hf16⟩:=LU hf14 (fs:=fs) (ds:=ds) (n:=1+r14) (by omega) (by omega) hfs hds hd;obtain ⟨oth,f19,e19,W19,hf19⟩:=qd (r:=r8) hf16 (by omega) (by omega) (by omega) W16;exact ⟨one,oth,f19,1+r1,1+r14,by simp only [e14,LB,e16,e19,Option.bind_some],by omega,by omega,W7,by omega,by omega,W19,hf19⟩
end
def kR (x:Dv):Prop:=∃ xs,x=.tup xs/\SH xs/\xs.length<=1000
theorem La {ts:List Nat} (h:ts.length<=1000):kR (tI ts):=⟨nI ts,rfl,LC ts,by rw [Cj];exact h⟩
theorem ZX {x0 x1 r1 f1 t2 r3 f3 t4 one f5 t6 row f7 oth t9 r11 f11 r13 f13 t14 t15 t16 t17:Dv} (h1:AL x0 (.int 2)=some (r1,f1)) (h2:AN (.lst [.int 12,.int 40]) r1=some t2) (h3:AL f1 t2=some (r3,f3)) (h4:Bm (.int 1) r3=some t4) (h5:CW f3 x1 t4=some (one,f5)) (h6:AN one (.int 0)=some t6) (h7:Be f5 t6=some (row,f7)) (h8:CD x1 one row=some oth)
    (h9:IZ row=some t9) (h11:AL f7 t6=some (r11,f11)) (h13:AL f11 t6=some (r13,f13)) (h14:CL t9 r13 r11=some t14) (h15:Av t14=some t15) (h16:Tb row (.int 1)=some t16) (h17:Bm row (.tup [.int 0])=some t17):Ee x0 x1=some (.tup [one,oth,.lst [row,t15,t16,t17,row]],f13):=by
  unfold Ee;simp only [h1,h2,h3,h4,h5,h6,h7,h8,h9,h11,h13,h14,h15,h16,h17,Option.bind_some]
section
variable {fs ds:List Dv}
theorem TB {f:Dv} (hf:Fd f) (hfs:fs.length<=100) (hds:ds.length<=100) (hd:∀ x∈ds,aj 5 x):∃ one oth L f' n,Ee f (.tup [.tup fs,.tup ds])=some (.tup [one,oth,.lst L],f')/\n<=1000/\dO n fs.length ds one/\dO n fs.length ds oth/\(∀ x∈L,kR x)/\Fd f':=by
 obtain ⟨r1,f1,e1,b1,hf1⟩:=Ah hf (n:=2) (by decide) (by decide);obtain ⟨m,em,hm0,hm⟩:∃ m:Nat,AN (.lst [.int 12,.int 40]) (.int (r1:Nat))=some (.int (m:Nat))/\0 < m/\m<=40:=by
  have:r1=0\/r1=1:=by omega
  rcases this with rfl | rfl
  ·exact ⟨12,rfl,by decide,by decide⟩
  ·exact ⟨40,rfl,by decide,by decide⟩
 obtain ⟨r3,f3,e3,b3,hf3⟩:=Ah hf1 (n:=((m:Nat):Int)) (by omega) (by omega);obtain ⟨one,f5,e5,W5,hf5⟩:=LU hf3 (fs:=fs) (ds:=ds) (n:=1+r3) (by omega) (by omega) hfs hds hd;obtain ⟨cs,T,W⟩:=W5;obtain ⟨ts,f7,e7,p,hf7⟩:=IP hf5 (n:=1+r3) (by omega);obtain ⟨oth,cs',T',e8,W'⟩:=JT (fx:=.tup fs) (ts:=ts) (by omega) (by omega) (by omega) W p;obtain ⟨r11,f11,e11,b11,hf11⟩:=Ah hf7 (n:=((1+r3:Nat):Int)) (by omega) (by omega);obtain ⟨r13,f13,e13,b13,hf13⟩:=Ah hf11 (n:=((1+r3:Nat):Int)) (by omega) (by omega);have hl:ts.length=1+r3:=p.1;have e9:IZ (tI ts)=some (.lst (nI ts)):=rfl;have e14:CL (.lst (nI ts)) (.int (r13:Nat)) (.int (r11:Nat))=some (.lst (nI (ts.set r13 r11))):=by
  rw [Kw (by rw [Cj];omega)];simp only [nI,List.map_set]
 have e16:∃ ys,Tb (tI ts) (.int 1)=some (.tup ys)/\SH ys/\ys.length<=1000:=by
  refine ⟨Dj (nI ts) (some 1) none,rfl,fun y hy=>LC ts y (Jj hy),?_⟩;have:=LN (nI ts) (some 1) none;rw [Cj] at this;omega
 obtain ⟨ys,e16,hy1,hy2⟩:=e16;have e17:Bm (tI ts) (.tup [.int 0])=some (tI (ts++[0])):=aU (t:=0) (by omega);refine ⟨one,oth,[tI ts,tI (ts.set r13 r11),.tup ys,tI (ts++[0]),tI ts],f13,1+r3,ZX e1 em e3 LB e5 W.w0 e7 e8 e9 e11 e13 e14 rfl e16 e17,by omega,⟨cs,T,W⟩,⟨cs',T',W'⟩,fun x hx=>?_,hf13⟩;simp only [List.mem_cons,List.not_mem_nil,or_false] at hx;rcases hx with rfl | rfl | rfl | rfl | rfl
 ·exact La (by omega)
 ·exact La (by rw [List.length_set];omega)
 ·exact ⟨ys,rfl,hy1,hy2⟩
 ·exact La (by simp;omega)
 ·exact La (by omega)
end
theorem YJ (x:Int) {k:Nat} (h0:0 < k) (h1:k<=900):∃ y,IY (.tup [.int x]) (.int (k:Nat))=some y/\kR y:=by
 refine ⟨.tup (List.replicate ((k:Int)).toNat [Dv.int x]).flatten,?_,_,rfl,fun y hy=>?_,?_⟩
 ·simp only [IY];rw [if_pos ⟨by simp,by omega,by omega,by simp;omega⟩]
 ·obtain ⟨l,hl,hy⟩:=List.mem_flatten.mp hy;rw [(List.mem_replicate.mp hl).2,List.mem_singleton] at hy;exact ⟨x,hy⟩
 ·rw [len_rep];simp;omega
theorem gi {x1 x2 x3 it t11 f c2 f15 ys f25 t26 t27 r28 f28 t29 r31 f31 t32 t33 t34:Dv} {t12 p15:List Dv} (h11:AN x1 (.int 0)=some t11) (h12:BY t11=some t12) (h15:Gu t12 (CM (DR x2) t12 f)=some (p15,f15)) (h25:DQ f15 x3 (.lst p15)=some (f25,ys)) (h26:AN x2 (.int 0)=some t26) (h27:Bm t26 (.int 2)=some t27) (h28:AL f25 t27=some (r28,f28)) (h29:SE r28 (.int 1)=some t29)
    (h31:AL f28 t11=some (r31,f31)) (h32:CL ys r31 t29=some t32) (h33:Av t32=some t33) (h34:BP c2 t33=some t34):Cf x1 x2 x3 it (f,c2)=some (f31,t34):=by
  unfold Cf;simp only [h11,h12,h15,h25,h26,h27,h28,h29,h31,h32,h33,h34,Option.bind_some]
theorem VP {x0 x1 x2 x3 t1 t2 t3 t4 t6 t7 t9:Dv} {t10:List Dv} {c35:Dv×Dv} (h1:AN x1 (.int 0)=some t1) (h2:Bm t1 (.int 1)=some t2) (h3:IY (.tup [.int 0]) t2=some t3) (h4:AN x2 (.int 0)=some t4) (h6:IY (.tup [t4]) t1=some t6) (h7:QX (.int 1)=some t7) (h9:IY (.tup [t7]) t1=some t9) (h10:BY (.int 3)=some t10)
    (h35:Cm (Cf x1 x2 x3) t10 (x0,.lst [.tup [],t3,t6,t9])=some c35):CS x0 x1 x2 x3=some (c35.2,c35.1):=by
  unfold CS;simp only [h1,h2,h3,h4,h6,h7,h9,h10,h35,Option.bind_some]
section
variable {n1 n2 nf:Nat} {ds:List Dv} {one oth fx:Dv} {cs es:List Nat} {T U:List Dv}
theorem XD {f:Dv} (hf:Fd f) {R:List (List Nat)} (hR:R.length<=1000) (hr:∀ r∈R,r.length=n1) {xs:List Dv} (hx:SH xs) (hl:xs.length=n1):∃ ys f',DQ f (.lst (R.map tI)) (.lst xs)=some (f',.lst ys)/\SH ys/\ys.length=n1/\Fd f':=by
 have l1:Dx (.lst (R.map tI))=some (.int (R.length:Nat)):=by show some (Dv.int ((R.map tI).length:Nat))=_;rw [List.length_map]
 have t1:∃ b f',EF f (.lst (R.map tI))=some (b,f')/\(b=true->0 < R.length)/\Fd f':=by
  unfold EF;simp only [l1,Option.bind_some,FI];split
  ·rename_i h;obtain ⟨r,f',e,_,hf'⟩:=Ah hf (n:=2) (by decide) (by decide);simp only [e,Option.bind_some,CC];exact ⟨_,f',rfl,fun _=>by have:=of_decide_eq_true h;omega,hf'⟩
  ·exact ⟨false,f,rfl,(fun z=>by cases z),hf⟩
 obtain ⟨b,f1,e1,hb,hf1⟩:=t1;unfold DQ;rw [e1];simp only [Option.bind_some];cases b with
 | false=>exact ⟨xs,f1,rfl,hx,hl,hf1⟩
 | true =>
  have h0:=hb rfl;obtain ⟨r,f2,e2,b2,hf2⟩:=Ah hf1 (n:=((R.length:Nat):Int)) (by omega) (by omega);obtain ⟨y,hy,ey⟩:=SG (xs:=R.map tI) (i:=r) (by omega) (by rw [List.length_map];omega);obtain ⟨row,hrow,rfl⟩:=List.mem_map.mp hy;refine ⟨nI row,f2,?_,LC row,by rw [Cj];exact hr row hrow,hf2⟩;simp only [if_true,l1,Option.bind_some,e2,ey];rfl
theorem Ol {f:Dv} (hf:Fd f) (h10:0 < n1) (h1:n1<=4) (h20:0 < n2) (h2:n2<=4) (W1:Wl n1 nf ds one cs T) (W2:Wl n2 nf ds oth es U) {R:List (List Nat)} (hR:R.length<=1000) (hr:∀ r∈R,r.length=n1):∃ L f',CS f one oth (.lst (R.map tI))=some (.lst L,f')/\(∀ x∈L,kR x)/\L.length<=100/\Fd f':=by
  obtain ⟨y3,e3,hy3⟩:=YJ 0 (k:=n1+1) (by omega) (by omega);obtain ⟨y6,e6,hy6⟩:=YJ (n2:Nat) (k:=n1) (by omega) (by omega);obtain ⟨y9,e9,hy9⟩:=YJ (-1) (k:=n1) (by omega) (by omega);have a2:Bm (.int (n1:Nat)) (.int 1)=some (.int ((n1+1:Nat))):=by rw [GO];congr 1
  obtain ⟨c,e,hc1,L,rfl',hL,hLt⟩:=Jc (Cf one oth (.lst (R.map tI))) (fun i c=>Fd c.1/\∃ L,c.2=.lst L/\L.length=4+i/\∀ x∈L,kR x) ((List.range 3).map fun k=>.int (k:Nat)) 0 (f,.lst [.tup [],y3,y6,y9]) ⟨hf,_,rfl,rfl,fun x hx=>by
      simp only [List.mem_cons,List.not_mem_nil,or_false] at hx;rcases hx with rfl | rfl | rfl | rfl
      · exact ⟨[],rfl,(fun y hy=>by cases hy),by simp⟩
      · exact hy3
      · exact hy6
      · exact hy9⟩ fun i x hx c hc=>by
    obtain ⟨f,c2⟩:=c;obtain ⟨hf,L,e2,hL,hLt⟩:=hc;simp only at hf e2;subst e2;have hi:i < 3:=by
      rcases Nat.lt_or_ge i 3 with h | h
      · exact h
      · rw [List.getElem?_eq_none (by simp;omega)] at hx;cases hx
    obtain ⟨xs,f15,e15,hl15,hx15,hf15⟩:=Eo (DR oth) Fd (fun d=>∃ i:Int,d=.int i) ((List.range n1).map fun k=>.int (k:Nat)) f hf fun x _ c hc=>by
      obtain ⟨r,f',e,_,hf'⟩:=Ah hc (n:=((n2:Nat):Int)) (by omega) (by omega);exact ⟨.int r,f',by unfold DR;rw [W2.w0];simp only [Option.bind_some,e],⟨_,rfl⟩,hf'⟩
    obtain ⟨ys,f25,e25,hy,hyl,hf25⟩:=XD hf15 hR hr (xs:=xs) hx15 (by simpa using hl15);obtain ⟨r28,f28,e28,_,hf28⟩:=Ah hf25 (n:=((n2:Nat):Int)+2) (by omega) (by omega);obtain ⟨r31,f31,e31,b31,hf31⟩:=Ah hf28 (n:=((n1:Nat):Int)) (by omega) (by omega);have hr31:r31 < ys.length:=by omega
    refine ⟨(f31,.lst (L++[.tup (ys.set r31 (.int ((r28:Int) - 1)))])),gi W1.w0 (Js n1 (by omega)) (by rw [CK (by simp;omega),e15]) e25 W2.w0 (GO _ _) e28 (sub_int _ _) e31 (Kw hr31) rfl (ND (by omega)),hf31,_,rfl,by rw [List.length_append,hL];simp;omega,fun x hx=>?_⟩;rcases List.mem_append.mp hx with hx | hx
    · exact hLt x hx
    · rw [List.mem_singleton] at hx;subst hx;refine ⟨_,rfl,fun y hy'=>?_,by rw [List.length_set];omega⟩;rcases List.mem_or_eq_of_mem_set hy' with hy' | rfl
      · exact hy y hy'
      · exact ⟨_,rfl⟩
  obtain ⟨f',c2⟩:=c;simp only at hc1 rfl';subst rfl';refine ⟨L,f',VP W1.w0 a2 e3 W2.w0 e6 rfl e9 (Js 3 (by decide)) e,hLt,by rw [hL];simp,hc1⟩
end
section
variable {fs ds:List Dv}
theorem Yu {f:Dv} (hf:Fd f):∃ f',Ln f=some (.go f')/\Fd f':=by
  obtain ⟨r2,f2,e2,b2,hf2⟩:=Ah hf (n:=4) (by decide) (by decide);unfold Ln;simp only [e2,Option.bind_some,CC];split
  · obtain ⟨fs,ds,f4,e4,hfs,tfs,hds,tds,hf4⟩:=Lo hf2;obtain ⟨one,oth,L,f5,n,e5,hn,⟨cs,T,W1⟩,⟨es,U,W2⟩,hL,hf5⟩:=TB (fs:=fs) (ds:=ds) hf4 (by omega) (by omega) tds;refine ⟨f5,?_,hf5⟩;have g:=ID (τ:=Dv) (ρ:=Unit) (Jr (.tup [.tup fs,.tup ds]) one oth) () L fun x hx=>by
      obtain ⟨xs,rfl,hx,hl⟩:=hL x hx;exact (de (fx:=.tup fs) (by omega) hn W1 W2 hx hl).1
    rw [e4];simp only [Option.bind_some];rw [e5];simp only [Option.bind_some,gL,Ak,Bg];rw [g];rfl
  · exact ⟨f2,rfl,hf2⟩
theorem jF {x0 it r22 shp f23 one oth f24 due t38 stg f39:Dv} {L:List Dv} (h22:ES x0 it=some r22) (h23:Dd r22=some (shp,f23)) (h24:Bs f23 shp=some (.tup [one,oth],f24)) (h26:CN shp one oth=some due) (h35:EX (Im shp one oth due) ((List.range 2).map fun k=>.int (k:Nat)) ()=some (.go ())) (h38:NF due (.int 6)=some t38) (h39:CS f24 one oth due=some (stg,f39)) (h40:Bm t38 stg=some (.lst L)) (h48:EX (Il shp one oth) L ()=some (.go ())):Ik x0 it ()=some (.go ()):=by
 have r2:BY (.int 2)=some ((List.range 2).map fun k=>.int (k:Nat)):=Js 2 (by decide);have i1:Ak (.lst L)=some L:=rfl;unfold Ik;simp only [h22,h23,h24,SD,h26,r2,h35,h38,h39,h40,i1,h48,Option.bind_some,Rs.el]
theorem Yt {ns:List Int} {k:Nat}:Ik (.scr ns) (.int (k:Nat)) ()=some (.go ()):=by
 obtain ⟨f,e,hf⟩:=OK (ns:=ns) (k:=k);obtain ⟨fs,ds,f6,e6,hfs,tfs,hds,tds,hf6⟩:=Lo hf;obtain ⟨one,oth,f7,n1,n2,e7,h10,h1,⟨cs,T,W1⟩,h20,h2,⟨es,U,W2⟩,hf7⟩:=Wq (fs:=fs) (ds:=ds) hf6 (by omega) (by omega) tds;have am:=NY (fx:=.tup fs) (by omega) W1 W2 h1 h2;have mv:=Ss (fx:=.tup fs) W1 W2 h1 h2;obtain ⟨R,hRe⟩:∃ R,(rows n2 n1).filter (la cs es ds T U)=R:=⟨_,rfl⟩;have hR:R.length<=256:=by rw [<- hRe];exact Nat.le_trans (List.length_filter_le _ _) (JS h2 h1)
 have hr:∀ r∈R,r.length=n1:=fun r hr=>by rw [<- hRe] at hr;exact (GE (List.mem_filter.mp hr).1).1
 rw [hRe] at am mv;obtain ⟨L,f8,e8,hL,hLl,hf8⟩:=Ol hf7 h10 h1 h20 h2 W1 W2 (R:=R) (by omega) hr;have g2:=ID (τ:=Dv) (ρ:=Unit) (Im (.tup [.tup fs,.tup ds]) one oth (.lst (R.map tI))) () ((List.range 2).map fun k=>.int (k:Nat)) fun x _=>kY mv (by omega) fun r hr'=>by rw [hr r hr'];omega
 have s1:NF (.lst (R.map tI)) (.int 6)=some (.lst (Dj (R.map tI) none (some 6))):=rfl;have hc:=LN (R.map tI) none (some 6);rw [List.length_map] at hc;have a1:Bm (.lst (Dj (R.map tI) none (some 6))) (.lst L)=some (.lst (Dj (R.map tI) none (some 6)++L)):=by simp only [Bm];rw [if_pos (by omega)]
 refine jF e e6 e7 am g2 s1 e8 a1 (ID (Il (.tup [.tup fs,.tup ds]) one oth) () _ fun x hx=>?_);have:kR x:=by
  rcases List.mem_append.mp hx with hx | hx
  ·obtain ⟨r,hr',rfl⟩:=List.mem_map.mp (Jj hx);exact La (by rw [hr r hr'];omega)
  ·exact hL x hx
 obtain ⟨xs,rfl,hx,hl⟩:=this;exact (de (fx:=.tup fs) (by omega) (by omega) W1 W2 hx hl).2
end
theorem Yr:∀ ns:List Int,ns.length<=63->VT (.scr ns)=some (.bl true):=by
 intro ns _;obtain ⟨f,e,hf⟩:=OK (ns:=ns) (k:=0);obtain ⟨f',e1,_⟩:=Yu hf;have sm:∀ i:Int,0<=i->i<=1000->Q.small i=true:=fun i h0 h1=>by unfold Q.small;simp;omega
 have er:SF (.int 1) (.int 3)=some ((List.range ((3:Int) - 1).toNat).map fun k=>.int (1+(k:Nat))):=by
  simp only [SF,sm 1 (by decide) (by decide),sm 3 (by decide) (by decide),Bool.and_self,if_true]
 have e':ES (.scr ns) (.int 0)=some f:=e;have g:=ID (τ:=Dv) (ρ:=Unit) (Ik (.scr ns)) () ((List.range ((3:Int) - 1).toNat).map fun k=>.int (1+(k:Nat))) fun x hx=>by
  obtain ⟨k,_,rfl⟩:=List.mem_map.mp hx;have:(1:Int)+(k:Nat)=((1+k:Nat):Int):=by omega
  rw [this];exact Yt
 unfold VT;rw [e'];simp only [Option.bind_some];rw [e1];simp only [Option.bind_some,Rs.el];rw [er];simp only [Option.bind_some];rw [g];rfl
end My
set_option maxHeartbeats 1000000
set_option maxHeartbeats 1000000
set_option maxHeartbeats 1000000
set_option maxHeartbeats 1000000
set_option maxHeartbeats 1000000
set_option maxHeartbeats 1000000
set_option maxHeartbeats 1000000
set_option maxHeartbeats 1000000
set_option maxHeartbeats 1000000
namespace L2
open PySem
abbrev dy (l:W.OpenLaw) (n:Nat) (as:List Addr) (K:Params->W.Frag) (N:Nat):Prop:=
 W.LeftO l.row.prog (W.view l.prog (List.range n)) [] (fun s=>W.xlAt (W.view l.prog (List.range n)) [] s && W.recOk [] s) (fun s=>as.map s.heap.get?) (fun w=>(K w.params).map fun p=>some p.2) N
theorem mk_law {l:W.OpenLaw} {n:Nat} {N:Nat} {d:DefRec} {K:Params->W.Frag} {as:List Addr} (ws:l.wellSaid=true) (left:dy l n as K N)
    (has:∀ P,as=(K P).map (·.1)) (hr:l.row.records=[]) (hdef:W.defOf (W.view l.prog (List.range n)) l.row.name=some (d,[])) (hp:l.row.prog.theDef l.row.name=some (d.params,d.body,d.scope)) (hk:W.kwWritten? d.params.kwonlyargs d.params.kw_defaults=some [])
    (hwr:(!l.row.writes || l.row.records.isEmpty)=true)
    (ok:(W.chainsOk (W.view l.prog (List.range n)) && W.opensWell l.row.prog && (W.frees l.row.toRowW && l.row.within.isEmpty))=true) (hb:l.row.prog.bare) (hw:l.row.toRowW.promised)
    (call:W.WalkO (W.view l.prog (List.range n)) [] (W.XL (W.view l.prog (List.range n)) []) (W.InK K) l.row.toRowW d [] fun f vs=>PySem.call f vs):l.Holds:=
  W.holds_law ws fun said=>W.holds_open (q:=W.view l.prog (List.range n)) (loose:=[]) (XP:=W.XL (W.view l.prog (List.range n)) []) (YP:=W.InK K) left (W.InK.of has) W.InK.keeps (fun s e=>W.xl_of s (Bool.and_eq_true_iff.mp e).1) W.XL.keeps hdef hp hk (fun s e=>W.recFacts_nil hr) hwr said ok hb hw call
noncomputable abbrev ke (P:Params) (x:Str) (t:Tok) (v:Value):DictEntry:=⟨PyData.keyHash P x,.str x t,v⟩
noncomputable abbrev cO (x:Str) (t:Tok) (l a s:Int) (r1 r2:Addr) (v1 v2 v3:Value) (r3:Addr) (t2:Nat):Obj:=⟨.type "code", none,.fields #[.str x t,.str x (t+1),.str "/claim/cut.py" (t+2),.int l 0,.int a 0,.int 0 0,.int 0 0,.int s 0,.ref r1,.bool true,.int 181 0,.ref r2,v1,v2,v3,.ref r3,.int t2 0,.int l 0,.str "/claim/cut.py" (t2+1)],#[]⟩
noncomputable def jZ:Stmt->Pos
 | .FunctionDef _ _ _ _ _ _ _ _ _ p=>p
 | _=>⟨0,0,0,0⟩
noncomputable def Ze (K:W.Frag) (n:Str):Addr:=match W.nsIn K mainGlobals n with
 | some (some (.ref a))=>a
 | _=>0
noncomputable def iG (K:W.Frag) (f:Addr):Value:=match K.lookup f with
 | some ⟨_,_,.func d,_⟩=>d.pyModule
 | _=>.none
noncomputable def cx (K:W.Frag) (f:Addr):Value:=match K.lookup f with
 | some ⟨_,_,.func d,_⟩=>d.code
 | _=>.none
abbrev GF (K:W.Frag) (n:Str) (t:Stmt):Prop:=W.nsIn K mainGlobals n=some (some (.ref (Ze K n))) /\
 K.lookup (Ze K n)=some ⟨.type "function", none,.func (W.fnOf n n (Ej t) (Di t) (AS t) .none .none .none (iG K (Ze K n)) none (cx K (Ze K n)) .none),#[]⟩ /\
 W.codeIn K (cx K (Ze K n)) n=true/\W.keepIn K (.ref (Ze K n))=true
theorem FC {K:W.Frag} {n:Str} {t:Stmt} (h:GF K n t):Fun K n n t (Ze K n) (W.fnOf n n (Ej t) (Di t) (AS t) .none .none .none (iG K (Ze K n)) none (cx K (Ze K n)) .none):=jT h.2.1 h.2.2.1 h.2.2.2
end L2
namespace My
open PySem L2 Q
theorem Vw (ns:List Int) (h:ns.length<=63):(ups [false] true (FA VT)) [.scr ns] []=some (.bl true,[],[]):=by
 have e:([.scr ns]:List Dt)=[mk false (.scr ns)]:=by simp only [mk]
 rw [e,Wn,Yr ns h];simp only [Option.map_some,mk]
theorem all_mk {l:W.OpenLaw} {w:World} {K:W.Frag} {h:Heap} {mg:Str->Option Value} {fa:Addr} (X:K.In h) (G:h.Ns mainGlobals mg) (hfa:mg "law" = some (.ref fa))
    (h1:GF K "_law_feed" SW)
    (h2:GF K "_law_take" SS)
    (h3:GF K "_law_names" Of)
    (h4:GF K "_law_shape" Oe)
    (h5:GF K "_law_world" Oc)
    (h6:GF K "_law_shuffled" Ii)
    (h7:GF K "_law_renamed" Jo)
    (h8:GF K "_law_great" Oh)
    (h9:GF K "_law_flat" SV)
    (h10:GF K "_law_two_worlds" HG)
    (h11:GF K "_law_with_each" Ig)
    (h12:GF K "_law_rows" SU)
    (h13:GF K "_law_keeps" Og)
    (h14:GF K "_law_all_moves" Ij)
    (h15:GF K "table_leads" HE)
    (h16:GF K "leads_alike" HF)
    (h17:GF K "is_move" Oi)
    (h18:GF K "longer_by_one" GS)
    (h19:GF K "moves" SR)
    (h20:GF K "_law_strange" Jn)
    (h21:GF K "_law_due" Wz)
    (h22:GF K "_law_whole" Od)
    (h23:GF K "law" VN)
    (z1:W.nsIn K mainGlobals "len" = some none)
    (z2:W.nsIn K mainGlobals "range" = some none)
    (z3:W.nsIn K mainGlobals "tuple" = some none)
    (z4:W.nsIn K mainGlobals "list" = some none)
    (z5:W.nsIn K mainGlobals "zip" = some none)
    (z6:W.nsIn K mainGlobals "isinstance" = some none)
    (z7:W.nsIn K mainGlobals "enumerate" = some none)
    (z8:W.nsIn K mainGlobals "all" = some none)
    (z9:W.nsIn K mainGlobals "int" = some none)
    (z10:W.nsIn K mainGlobals "bool" = some none)
    : ∃ fd:FuncData,(∀ (s:Shared) (v:Value),BindsTo s fd ⟨[v],[]⟩ [("_law_script", v)])/\∀ base:Heap,K.In base->base.Ns mainGlobals mg->FnOk l.prog w K mg base IJ 204 fa fd ["_law_script"] (To K):=by
  have e:=hfa.symm.trans (W.mg_of X G h23.1);cases e;have F1:=FC h1;have F2:=FC h2;have F3:=FC h3;have F4:=FC h4;have F5:=FC h5;have F6:=FC h6;have F7:=FC h7;have F8:=FC h8;have F9:=FC h9;have F10:=FC h10;have F11:=FC h11;have F12:=FC h12;have F13:=FC h13;have F14:=FC h14;have F15:=FC h15;have F16:=FC h16;have F17:=FC h17;have F18:=FC h18;have F19:=FC h19;have F20:=FC h20;have F21:=FC h21;have F22:=FC h22;have F23:=FC h23;have m_len:=W.mg_none_of X G z1;have m_range:=W.mg_none_of X G z2;have m_tuple:=W.mg_none_of X G z3;have m_list:=W.mg_none_of X G z4;have m_zip:=W.mg_none_of X G z5;have m_isinstance:=W.mg_none_of X G z6;have m_enumerate:=W.mg_none_of X G z7;have m_all:=W.mg_none_of X G z8;have m_int:=W.mg_none_of X G z9;have m_bool:=W.mg_none_of X G z10
  have b1:=F1.binds (ps:=["_law_script", "_law_k"]) fun _ _ _ _ _ _ us hl=>by rcases us with _ | ⟨_,_ | ⟨_,_ | _⟩⟩<;>first | rfl | (simp at hl)
  have b2:=F2.binds (ps:=["_law_feed_here", "_law_many"]) fun _ _ _ _ _ _ us hl=>by rcases us with _ | ⟨_,_ | ⟨_,_ | _⟩⟩<;>first | rfl | (simp at hl)
  have b3:=F3.binds (ps:=["_law_feed_here", "_law_many"]) fun _ _ _ _ _ _ us hl=>by rcases us with _ | ⟨_,_ | ⟨_,_ | _⟩⟩<;>first | rfl | (simp at hl)
  have b4:=F4.binds (ps:=["_law_feed_here"]) fun _ _ _ _ _ _ us hl=>by rcases us with _ | ⟨_,_ | _⟩<;>first | rfl | (simp at hl)
  have b5:=F5.binds (ps:=["_law_feed_here", "_law_shape_here", "_law_n"]) fun _ _ _ _ _ _ us hl=>by rcases us with _ | ⟨_,_ | ⟨_,_ | ⟨_,_ | _⟩⟩⟩<;>first | rfl | (simp at hl)
  have b6:=F6.binds (ps:=["_law_feed_here", "_law_count"]) fun _ _ _ _ _ _ us hl=>by rcases us with _ | ⟨_,_ | ⟨_,_ | _⟩⟩<;>first | rfl | (simp at hl)
  have b7:=F7.binds (ps:=["_law_shape_here", "_law_world_here", "_law_things"]) fun _ _ _ _ _ _ us hl=>by rcases us with _ | ⟨_,_ | ⟨_,_ | ⟨_,_ | _⟩⟩⟩<;>first | rfl | (simp at hl)
  have b8:=F8.binds (ps:=["_law_feed_here", "_law_shape_here"]) fun _ _ _ _ _ _ us hl=>by rcases us with _ | ⟨_,_ | ⟨_,_ | _⟩⟩<;>first | rfl | (simp at hl)
  have b9:=F9.binds (ps:=["_law_feed_here", "_law_world_here"]) fun _ _ _ _ _ _ us hl=>by rcases us with _ | ⟨_,_ | ⟨_,_ | _⟩⟩<;>first | rfl | (simp at hl)
  have b10:=F10.binds (ps:=["_law_feed_here", "_law_shape_here"]) fun _ _ _ _ _ _ us hl=>by rcases us with _ | ⟨_,_ | ⟨_,_ | _⟩⟩<;>first | rfl | (simp at hl)
  have b11:=F11.binds (ps:=["_law_found", "_law_count"]) fun _ _ _ _ _ _ us hl=>by rcases us with _ | ⟨_,_ | ⟨_,_ | _⟩⟩<;>first | rfl | (simp at hl)
  have b12:=F12.binds (ps:=["_law_count", "_law_length"]) fun _ _ _ _ _ _ us hl=>by rcases us with _ | ⟨_,_ | ⟨_,_ | _⟩⟩<;>first | rfl | (simp at hl)
  have b13:=F13.binds (ps:=["_law_shape_here", "_law_one", "_law_other", "_law_things"]) fun _ _ _ _ _ _ us hl=>by rcases us with _ | ⟨_,_ | ⟨_,_ | ⟨_,_ | ⟨_,_ | _⟩⟩⟩⟩<;>first | rfl | (simp at hl)
  have b14:=F14.binds (ps:=["_law_shape_here", "_law_one", "_law_other"]) fun _ _ _ _ _ _ us hl=>by rcases us with _ | ⟨_,_ | ⟨_,_ | ⟨_,_ | _⟩⟩⟩<;>first | rfl | (simp at hl)
  have b15:=F15.binds (ps:=["places", "here", "there", "things"]) fun _ _ _ _ _ _ us hl=>by rcases us with _ | ⟨_,_ | ⟨_,_ | ⟨_,_ | ⟨_,_ | _⟩⟩⟩⟩<;>first | rfl | (simp at hl)
  have b16:=F16.binds (ps:=["shape", "one", "other", "things"]) fun _ _ _ _ _ _ us hl=>by rcases us with _ | ⟨_,_ | ⟨_,_ | ⟨_,_ | ⟨_,_ | _⟩⟩⟩⟩<;>first | rfl | (simp at hl)
  have b17:=F17.binds (ps:=["shape", "one", "other", "things"]) fun _ _ _ _ _ _ us hl=>by rcases us with _ | ⟨_,_ | ⟨_,_ | ⟨_,_ | ⟨_,_ | _⟩⟩⟩⟩<;>first | rfl | (simp at hl)
  have b18:=F18.binds (ps:=["tuples", "n"]) fun _ _ _ _ _ _ us hl=>by rcases us with _ | ⟨_,_ | ⟨_,_ | _⟩⟩<;>first | rfl | (simp at hl)
  have b19:=F19.binds (ps:=["shape", "one", "other"]) fun _ _ _ _ _ _ us hl=>by rcases us with _ | ⟨_,_ | ⟨_,_ | ⟨_,_ | _⟩⟩⟩<;>first | rfl | (simp at hl)
  have b20:=F20.binds (ps:=["_law_feed_here", "_law_one", "_law_other", "_law_some"]) fun _ _ _ _ _ _ us hl=>by rcases us with _ | ⟨_,_ | ⟨_,_ | ⟨_,_ | ⟨_,_ | _⟩⟩⟩⟩<;>first | rfl | (simp at hl)
  have b21:=F21.binds (ps:=["_law_shape_here", "_law_one", "_law_other", "_law_row"]) fun _ _ _ _ _ _ us hl=>by rcases us with _ | ⟨_,_ | ⟨_,_ | ⟨_,_ | ⟨_,_ | _⟩⟩⟩⟩<;>first | rfl | (simp at hl)
  have b22:=F22.binds (ps:=["_law_rows_here"]) fun _ _ _ _ _ _ us hl=>by rcases us with _ | ⟨_,_ | _⟩<;>first | rfl | (simp at hl)
  refine ⟨W.fnOf "law" "law" (Ej VN) (Di VN) (AS VN) .none .none .none (iG K (Ze K "law")) none (cx K (Ze K "law")) .none,fun s v=>.of_eq rfl,fun base _ _=>?_⟩
  have XLFeed:My.XLFeed l.prog w K mg base:=⟨_,_,YF F1 m_len,W.mg_of X G h1.1,h1.2.2.2,b1⟩;have XLTake:My.XLTake l.prog w K mg base:=⟨_,_,YC F2 , W.mg_of X G h2.1,h2.2.2.2,b2⟩;have XLNames:My.XLNames l.prog w K mg base:=⟨_,_,Vj F3 XLTake m_range m_len,W.mg_of X G h3.1,h3.2.2.2,b3⟩;have XLShape:My.XLShape l.prog w K mg base:=⟨_,_,Vi F4 XLNames XLTake m_range m_tuple,W.mg_of X G h4.1,h4.2.2.2,b4⟩;have XLWorld:My.XLWorld l.prog w K mg base:=⟨_,_,Vg F5 XLTake m_tuple m_range,W.mg_of X G h5.1,h5.2.2.2,b5⟩;have XLShuffled:My.XLShuffled l.prog w K mg base:=⟨_,_,PM F6 XLTake m_list m_range m_len m_tuple,W.mg_of X G h6.1,h6.2.2.2,b6⟩;have XLRenamed:My.XLRenamed l.prog w K mg base:=⟨_,_,RC F7 m_range m_tuple m_zip,W.mg_of X G h7.1,h7.2.2.2,b7⟩;have XLGreat:My.XLGreat l.prog w K mg base:=⟨_,_,Vl F8 XLWorld XLTake XLShuffled XLRenamed m_list m_tuple,W.mg_of X G h8.1,h8.2.2.2,b8⟩;have XLFlat:My.XLFlat l.prog w K mg base:=⟨_,_,YE F9 XLTake m_list m_tuple m_isinstance m_len m_range,W.mg_of X G h9.1,h9.2.2.2,b9⟩;have XLTwoWorlds:My.XLTwoWorlds l.prog w K mg base:=⟨_,_,NO F10 XLWorld XLTake XLFlat XLRenamed XLShuffled,W.mg_of X G h10.1,h10.2.2.2,b10⟩;have XLWithEach:My.XLWithEach l.prog w K mg base:=⟨_,_,PL F11 m_range,W.mg_of X G h11.1,h11.2.2.2,b11⟩;have XLRows:My.XLRows l.prog w K mg base:=⟨_,_,YD F12 XLWithEach m_range,W.mg_of X G h12.1,h12.2.2.2,b12⟩;have XLKeeps:My.XLKeeps l.prog w K mg base:=⟨_,_,Vk F13 m_list m_range m_zip,W.mg_of X G h13.1,h13.2.2.2,b13⟩;have XLAllMoves:My.XLAllMoves l.prog w K mg base:=⟨_,_,PN F14 XLRows XLKeeps,W.mg_of X G h14.1,h14.2.2.2,b14⟩;have OGTableLeads:=IT (P:=l.prog) (w:=w) (base:=base) F15 (W.mg_of X G h15.1) b15 m_len m_enumerate m_all 200;have XTableLeads:My.XTableLeads l.prog w K mg base:=⟨_,_,OGTableLeads,W.mg_of X G h15.1,h15.2.2.2,b15⟩;have XLeadsAlike:My.XLeadsAlike l.prog w K mg base:=⟨_,_,NN F16 XTableLeads m_len m_zip,W.mg_of X G h16.1,h16.2.2.2,b16⟩;have XIsMove:My.XIsMove l.prog w K mg base:=⟨_,_,Vm F17 XLeadsAlike m_len m_all,W.mg_of X G h17.1,h17.2.2.2,b17⟩;have XLongerByOne:My.XLongerByOne l.prog w K mg base:=⟨_,_,MD F18 m_range,W.mg_of X G h18.1,h18.2.2.2,b18⟩;have XMoves:My.XMoves l.prog w K mg base:=⟨_,_,YB F19 XLongerByOne XLeadsAlike m_range,W.mg_of X G h19.1,h19.2.2.2,b19⟩;have XLStrange:My.XLStrange l.prog w K mg base:=⟨_,_,RB F20 XLTake m_range m_len m_list m_tuple,W.mg_of X G h20.1,h20.2.2.2,b20⟩;have XLDue:My.XLDue l.prog w K mg base:=⟨_,_,cI F21 XLKeeps m_len m_all,W.mg_of X G h21.1,h21.2.2.2,b21⟩;have XLWhole:My.XLWhole l.prog w K mg base:=⟨_,_,Vh F22 m_tuple m_isinstance m_int m_bool m_all,W.mg_of X G h22.1,h22.2.2.2,b22⟩;exact jD (iu F23 XLFeed XLTake XLShape XLGreat XIsMove XLDue XLTwoWorlds XLAllMoves XMoves XLWhole XLStrange m_bool m_isinstance m_list m_range) Vw
theorem walk {l:W.OpenLaw} {q:Program} {loose:List Str} {XP:(Str->Option Value)->Heap->Prop} {YP:World->Heap->Prop} {d:DefRec} {K:Params->W.Frag} (hn:l.most=some 63) (hdf:d.params.defaults=[])
    (hY:∀ (w:World) (h:Heap),YP w h->(K w.params).In h)
    (F:∀ (w:World) (mg:Str->Option Value) (fa:Addr) (h:Heap),(K w.params).In h->h.Ns mainGlobals mg->mg d.name=some (.ref fa) ->
      ∃ fd:FuncData,(∀ (s:Shared) (u:Value),BindsTo s fd ⟨[u],[]⟩ [("_law_script", u)])/\∀ base:Heap,(K w.params).In base->base.Ns mainGlobals mg->FnOk l.prog w (K w.params) mg base IJ 204 fa fd ["_law_script"] (To (K w.params))) :
    W.WalkO q loose XP YP l.row.toRowW d [] (fun f vs=>PySem.call f vs):=
  L2.walk_of (n:=63) (k:=204) (x := "_law_script") (CX:=fun _=>IJ) (sp:=fun w=>To (K w.params)) hn (by decide) hdf ⟨rfl,by decide,by decide,rfl⟩ hY F (fun _ _ a ns hl hO hS=>⟨a,ns,rfl,hS,hl,hO,fun _=>rfl⟩) fun _ _ _ _ _ z=>z
abbrev fO (i:Nat) (x:Str) (pm:Value) (cd:Addr):Obj:=⟨.type "function", none,.func (W.fnOf x x (Ej (top i)) (Di (top i)) (AS (top i)) .none .none .none pm none (.ref cd) .none),#[]⟩
noncomputable def KP (P:Params):W.Frag:=[
(3,⟨.type "dict", none,.dict #[ke P "__name__" 165 (.str "law_shapefree_k59_moves" 228),ke P "__doc__" 166 .none,ke P "__package__" 167 .none,ke P "__loader__" 168 (.builtin "__main__.__loader__#opaque"),ke P "__spec__" 169 .none,ke P "__annotations__" 170 (.ref 6),ke P "__builtins__" 171 (.ref 4),ke P "__file__" 173 (.str "/claim/cut.py" 172),ke P "__cached__" 174 .none,ke P "longer_by_one" 194 (.ref 19),ke P "is_move" 202 (.ref 24),ke P "leads_alike" 215 (.ref 31),ke P "table_leads" 221 (.ref 36),ke P "moves" 227 (.ref 41),ke P "_law_feed" 239 (.ref 48),ke P "_law_take" 249 (.ref 55),ke P "_law_names" 255 (.ref 60),ke P "_law_shape" 261 (.ref 65),ke P "_law_world" 267 (.ref 70),ke P "_law_keeps" 273 (.ref 75),ke P "_law_rows" 279 (.ref 80),ke P "_law_with_each" 285 (.ref 85),ke P "_law_all_moves" 291 (.ref 90),ke P "_law_shuffled" 301 (.ref 97),ke P "_law_renamed" 307 (.ref 102),ke P "_law_flat" 313 (.ref 107),ke P "_law_two_worlds" 324 (.ref 114),ke P "_law_strange" 330 (.ref 119),ke P "_law_due" 336 (.ref 124),ke P "_law_whole" 342 (.ref 129),ke P "_law_great" 354 (.ref 136),ke P "law" 371 (.ref 143)] 32,#[]⟩),
(19,fO 1 "longer_by_one" (.str "shapefree.worlds" 187) 18),
(18,cO "longer_by_one" 189 2 2 3 15 16 .none .none .none 17 192),
(24,fO 3 "is_move" (.str "shapefree.moves" 195) 23),
(23,cO "is_move" 197 8 4 3 20 21 .none .none .none 22 200),
(31,fO 4 "leads_alike" (.str "shapefree.moves" 195) 30),
(30,cO "leads_alike" 203 12 4 3 25 26 .none (.ref 27) (.ref 28) 29 213),
(36,fO 5 "table_leads" (.str "shapefree.moves" 195) 35),
(35,cO "table_leads" 216 20 4 3 32 33 .none .none .none 34 219),
(41,fO 6 "moves" (.str "shapefree.moves" 195) 40),
(40,cO "moves" 222 24 3 3 37 38 .none .none .none 39 225),
(48,fO 8 "_law_feed" (.str "law_shapefree_k59_moves" 228) 47),
(47,cO "_law_feed" 230 30 2 3 42 43 .none (.ref 44) (.ref 45) 46 237),
(55,fO 9 "_law_take" (.str "law_shapefree_k59_moves" 228) 54),
(54,cO "_law_take" 240 40 2 3 49 50 .none (.ref 51) (.ref 52) 53 247),
(60,fO 10 "_law_names" (.str "law_shapefree_k59_moves" 228) 59),
(59,cO "_law_names" 250 48 2 3 56 57 .none .none .none 58 253),
(65,fO 11 "_law_shape" (.str "law_shapefree_k59_moves" 228) 64),
(64,cO "_law_shape" 256 63 1 3 61 62 .none .none .none 63 259),
(70,fO 12 "_law_world" (.str "law_shapefree_k59_moves" 228) 69),
(69,cO "_law_world" 262 69 3 3 66 67 .none .none .none 68 265),
(75,fO 13 "_law_keeps" (.str "law_shapefree_k59_moves" 228) 74),
(74,cO "_law_keeps" 268 78 4 3 71 72 .none .none .none 73 271),
(80,fO 14 "_law_rows" (.str "law_shapefree_k59_moves" 228) 79),
(79,cO "_law_rows" 274 89 2 3 76 77 .none .none .none 78 277),
(85,fO 15 "_law_with_each" (.str "law_shapefree_k59_moves" 228) 84),
(84,cO "_law_with_each" 280 94 2 3 81 82 .none .none .none 83 283),
(90,fO 16 "_law_all_moves" (.str "law_shapefree_k59_moves" 228) 89),
(89,cO "_law_all_moves" 286 99 3 3 86 87 .none .none .none 88 289),
(97,fO 17 "_law_shuffled" (.str "law_shapefree_k59_moves" 228) 96),
(96,cO "_law_shuffled" 292 101 2 3 91 92 .none (.ref 93) (.ref 94) 95 299),
(102,fO 18 "_law_renamed" (.str "law_shapefree_k59_moves" 228) 101),
(101,cO "_law_renamed" 302 107 3 3 98 99 .none .none .none 100 305),
(107,fO 19 "_law_flat" (.str "law_shapefree_k59_moves" 228) 106),
(106,cO "_law_flat" 308 117 2 3 103 104 .none .none .none 105 311),
(114,fO 20 "_law_two_worlds" (.str "law_shapefree_k59_moves" 228) 113),
(113,cO "_law_two_worlds" 314 129 2 3 108 109 .none (.ref 110) (.ref 111) 112 322),
(119,fO 21 "_law_strange" (.str "law_shapefree_k59_moves" 228) 118),
(118,cO "_law_strange" 325 142 4 3 115 116 .none .none .none 117 328),
(124,fO 22 "_law_due" (.str "law_shapefree_k59_moves" 228) 123),
(123,cO "_law_due" 331 151 4 3 120 121 .none .none .none 122 334),
(129,fO 23 "_law_whole" (.str "law_shapefree_k59_moves" 228) 128),
(128,cO "_law_whole" 337 155 1 3 125 126 .none .none .none 127 340),
(136,fO 24 "_law_great" (.str "law_shapefree_k59_moves" 228) 135),
(135,cO "_law_great" 343 160 2 3 130 131 .none (.ref 132) (.ref 133) 134 352),
(143,fO 25 "law" (.str "law_shapefree_k59_moves" 228) 142),
(142,cO "law" 355 167 1 3 137 138 .none (.ref 139) (.ref 140) 141 369)]
def dLaw:DefRec:=⟨"law", Ej (top 25),Di (top 25),AS (top 25),jZ (top 25)⟩
theorem top_left:dy PySem.Challenge.rw_shapefree_k59_moves 26 [3,19,18,24,23,31,30,36,35,41,40,48,47,55,54,60,59,65,64,70,69,75,74,80,79,85,84,90,89,97,96,102,101,107,106,114,113,119,118,124,123,129,128,136,135,143,142] KP 1486:=fun w=>by kernel_rfl
theorem top_said:PySem.Challenge.rw_shapefree_k59_moves.wellSaid=true:=by decide +kernel
end My
open PySem PySem.W PyProof.Rows
set_option maxRecDepth 100000 in
set_option maxHeartbeats 0 in
theorem PySem.Challenge.cw_shapefree_k59_moves_holds : PySem.Challenge.rw_shapefree_k59_moves.Holds := by
  refine L2.mk_law (d:=My.dLaw) My.top_said My.top_left (fun P=>by kernel_rfl) (by kernel_rfl) (by kernel_rfl) (by kernel_rfl) (by kernel_rfl) (by kernel_rfl) (by decide +kernel) ⟨rfl,rfl,rfl,rfl,rfl,by decide +kernel⟩ (by w_witness2) ?call
  refine My.walk (l:=PySem.Challenge.rw_shapefree_k59_moves) (d:=My.dLaw) (K:=My.KP) rfl (by kernel_rfl) (fun w h Y=>Y) fun w mg fa h KX G hmg=>My.all_mk KX G hmg ⟨by kernel_rfl,by kernel_rfl,by kernel_rfl,by kernel_rfl⟩ ⟨by kernel_rfl,by kernel_rfl,by kernel_rfl,by kernel_rfl⟩ ⟨by kernel_rfl,by kernel_rfl,by kernel_rfl,by kernel_rfl⟩ ⟨by kernel_rfl,by kernel_rfl,by kernel_rfl,by kernel_rfl⟩ ⟨by kernel_rfl,by kernel_rfl,by kernel_rfl,by kernel_rfl⟩ ⟨by kernel_rfl,by kernel_rfl,by kernel_rfl,by kernel_rfl⟩ ⟨by kernel_rfl,by kernel_rfl,by kernel_rfl,by kernel_rfl⟩ ⟨by kernel_rfl,by kernel_rfl,by kernel_rfl,by kernel_rfl⟩ ⟨by kernel_rfl,by kernel_rfl,by kernel_rfl,by kernel_rfl⟩ ⟨by kernel_rfl,by kernel_rfl,by kernel_rfl,by kernel_rfl⟩ ⟨by kernel_rfl,by kernel_rfl,by kernel_rfl,by kernel_rfl⟩ ⟨by kernel_rfl,by kernel_rfl,by kernel_rfl,by kernel_rfl⟩ ⟨by kernel_rfl,by kernel_rfl,by kernel_rfl,by kernel_rfl⟩ ⟨by kernel_rfl,by kernel_rfl,by kernel_rfl,by kernel_rfl⟩ ⟨by kernel_rfl,by kernel_rfl,by kernel_rfl,by kernel_rfl⟩ ⟨by kernel_rfl,by kernel_rfl,by kernel_rfl,by kernel_rfl⟩ ⟨by kernel_rfl,by kernel_rfl,by kernel_rfl,by kernel_rfl⟩ ⟨by kernel_rfl,by kernel_rfl,by kernel_rfl,by kernel_rfl⟩ ⟨by kernel_rfl,by kernel_rfl,by kernel_rfl,by kernel_rfl⟩ ⟨by kernel_rfl,by kernel_rfl,by kernel_rfl,by kernel_rfl⟩ ⟨by kernel_rfl,by kernel_rfl,by kernel_rfl,by kernel_rfl⟩ ⟨by kernel_rfl,by kernel_rfl,by kernel_rfl,by kernel_rfl⟩ ⟨by kernel_rfl,by kernel_rfl,by kernel_rfl,by kernel_rfl⟩ (by kernel_rfl) (by kernel_rfl) (by kernel_rfl) (by kernel_rfl) (by kernel_rfl) (by kernel_rfl) (by kernel_rfl) (by kernel_rfl) (by kernel_rfl) (by kernel_rfl)
