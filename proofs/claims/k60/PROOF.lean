import PyProof.Rows.All
import Wide.All
import OpenK.AllK
import Wide.FinOn
import PyProof.ZipIter
import PyProof.EnumMake
import PyProof.Draws
import KE.KRevIter
import PyProof.Rows.SortShell
import PyProof.StrLawsIn
import Lean
import PyProof.EqAt
import PyProof.EqKinds
import PyProof.TupleCall
import PySem.Challenge.RW_shapefree_k60_like_worlds
noncomputable section
set_option Elab.async false
set_option linter.all false
set_option maxRecDepth 100000
set_option maxHeartbeats 4000000
namespace L2
open PySem PySem.Spec PyProof.Rows
noncomputable abbrev Ii:=Sum Int Str
def Xf:Ii->Value->Bool
 | .inl k,v=>Value.isInt k v
 | .inr x,v=>Value.isStrOf x v
def gQ (w:World):Ii->Int
 | .inl k=>hashInt k
 | .inr x=>hashStr w x
theorem Ad:∀ {k:Ii} {v:Value},Xf k v=true->(∃ i t,k=Sum.inl i/\v=Value.int i t)\/(∃ x t,k=Sum.inr x/\v=Value.str x t)
 | .inl i,v,h=>by
  obtain ⟨t,e⟩:=Value.isInt_shape (k:=i) (v:=v) h;exact .inl ⟨i,t,rfl,e⟩
 | .inr x,v,h=>by
  obtain ⟨t,e⟩:=Value.isStrOf_shape (x:=x) (v:=v) h;exact .inr ⟨x,t,rfl,e⟩
theorem aB (a b:Int):decide ((Sum.inl a:Ii)=Sum.inl b)=(a == b):=by
 by_cases e:a=b
 ·subst e;simp
 ·have h:¬ (Sum.inl a:Ii)=Sum.inl b:=fun q=>e (Sum.inl.inj q)
  rw [decide_eq_false h];exact (beq_eq_false_iff_ne.mpr e).symm
theorem Zy (a b:Str):decide ((Sum.inr a:Ii)=Sum.inr b)=decide (a=b):=by
 by_cases e:a=b
 ·subst e;simp
 ·have h:¬ (Sum.inr a:Ii)=Sum.inr b:=fun q=>e (Sum.inr.inj q)
  rw [decide_eq_false h,decide_eq_false e]
theorem aA (a:Int) (b:Str):decide ((Sum.inl a:Ii)=Sum.inr b)=false:=decide_eq_false (fun q=>nomatch q)
theorem Zz (a:Str) (b:Int):decide ((Sum.inr a:Ii)=Sum.inl b)=false:=decide_eq_false (fun q=>nomatch q)
def JK (prog:Program) (w:World):PySem.KeyKind prog w Ii where
 is:=Xf
 hash:=gQ w
 inj:=fun v a b ha hb=>by
  rcases Ad ha with ⟨i,t,rfl,rfl⟩ | ⟨x,t,rfl,rfl⟩
  ·rcases Ad hb with ⟨j,u,rfl,e⟩ | ⟨y,u,rfl,e⟩
   ·injection e with e1 _;rw [e1]
   ·exact nomatch e
  ·rcases Ad hb with ⟨j,u,rfl,e⟩ | ⟨y,u,rfl,e⟩
   ·exact nomatch e
   ·injection e with e1 _;rw [e1]
 byValue:=fun k v h=>by
  rcases Ad h with ⟨i,t,rfl,rfl⟩ | ⟨x,t,rfl,rfl⟩<;>rfl
 pyHash:=fun hv h=>by
  rcases Ad hv with ⟨i,t,rfl,rfl⟩ | ⟨x,t,rfl,rfl⟩
  ·exact wpAny_pyHash_int h
  ·exact wpAny_pyHash_str h
 eqBool:=fun hu hv h=>by
  rcases Ad hu with ⟨i,t,rfl,rfl⟩ | ⟨x,t,rfl,rfl⟩
  ·rcases Ad hv with ⟨j,u,rfl,rfl⟩ | ⟨y,u,rfl,rfl⟩
   ·rw [aB] at h;exact wpAny_eqBool_int h
   ·rw [aA] at h;exact SeqAt.EqAt.int_str i t y u _ _ _ _ h
  ·rcases Ad hv with ⟨j,u,rfl,rfl⟩ | ⟨y,u,rfl,rfl⟩
   ·rw [Zz] at h;exact SeqAt.EqAt.str_int x t j u _ _ _ _ h
   ·rw [Zy] at h;exact wpAny_eqBool_str h
 «strs»:=fun k x t v h=>by
  rcases Ad h with ⟨i,u,rfl,e⟩ | ⟨y,u,rfl,e⟩
  ·exact nomatch e
  ·injection e with e1 _
   subst e1;cases v<;>rfl
inductive V where
 | non | bl (b:Bool) | int (i:Int) | str (x:Str) | byt (b:Array UInt8) | flt (b:UInt64) | ref (a:Addr) | ty (n:String)
 deriving DecidableEq
def RelV:V->Value->Prop
 | .non,u=>u=Value.none
 | .bl b,u=>u=Value.bool b
 | .int i,u=>∃ t,u=Value.int i t
 | .str x,u=>∃ t,u=Value.str x t
 | .byt b,u=>∃ t,u=Value.bytes b t
 | .flt b,u=>∃ t,u=Value.float b t
 | .ref a,u=>u=Value.ref a
 | .ty n,u=>u=Value.type n
abbrev AD:List V->List Value->Prop:=Paired RelV
theorem AD.length {xs:List V} {us:List Value} (r:AD xs us):xs.length=us.length:=Paired.length r
theorem AD.get:∀ {xs:List V} {us:List Value} {i:Nat} {x:V},AD xs us->xs[i]?=some x->∃ u,us[i]?=some u/\RelV x u
 | _,_,_,_,.nil,e=>by simp at e
 | _,_,0,_,.cons r _,e=>by simp at e;subst e;exact ⟨_,rfl,r⟩
 | _,_,i+1,x,.cons _ t,e=>by
  obtain ⟨u,h1,h2⟩:=AD.get (i:=i) (x:=x) t (by simpa using e);exact ⟨u,by simpa using h1,h2⟩
theorem AD.set {x:V} {u:Value} (r:RelV x u):∀ {xs:List V} {us:List Value} (i:Nat),AD xs us->AD (xs.set i x) (us.set i u)
 | _,_,_,.nil=>.nil
 | _,_,0,.cons _ t=>.cons r t
 | _,_,i+1,.cons q t=>.cons q (AD.set r i t)
theorem AD.append:∀ {xs ys:List V} {us ws:List Value},AD xs us->AD ys ws->AD (xs++ys) (us++ws)
 | _,_,_,_,.nil,s=>s
 | _,_,_,_,.cons r t,s=>.cons r (AD.append t s)
theorem AD.take:∀ {xs:List V} {us:List Value} (n:Nat),AD xs us->AD (xs.take n) (us.take n)
 | _,_,0,_=>.nil
 | _,_,_+1,.nil=>.nil
 | _,_,n+1,.cons r t=>.cons r (AD.take n t)
theorem AD.drop:∀ {xs:List V} {us:List Value} (n:Nat),AD xs us->AD (xs.drop n) (us.drop n)
 | _,_,0,r=>r
 | _,_,_+1,.nil=>.nil
 | _,_,n+1,.cons _ t=>AD.drop n t
def bS:Option V->Option Value->Prop
 | some v,some u=>RelV v u
 | none,none=>True
 | _,_=>False
def KV {κ:Type}:List (κ×V)->List (κ×Value)->Prop:=Paired fun (p:κ×V) (q:κ×Value)=>p.1=q.1/\RelV p.2 q.2
def kV:Ii->V
 | .inl i=>.int i
 | .inr x=>.str x
inductive HO where
 | lst (xs:List V)
 | tup (xs:List V)
 | dK (kvs:List (Ii×V)) | dT (kvs:List (List Ii×V))
 | set (S:Int->Bool) (n:Nat)
 | ins (C dx:Addr) (fs:List (Str×V))
 | own (x:Addr)
 | xd (fs:List (Str×V))
 | met (f x:Addr)
 | rng (lo hi:Int)
 | frz (o:Obj) (u:HO)
 | tbl (ps:Array Value)
 | ext (φ:Heap->Prop)
noncomputable abbrev Hp:=Addr->Option HO
def upd (H:Hp) (a:Addr) (o:HO):Hp:=fun b=>if b=a then some o else H b
theorem Bh {H:Hp} {a:Addr} {o:HO}:upd H a o a=some o:=by unfold upd;rw [if_pos rfl]
theorem AL {H:Hp} {a b:Addr} {o:HO} (h:b≠a):upd H a o b=H b:=by unfold upd;rw [if_neg h]
theorem Bc {H:Hp} {a b:Addr} {o:HO} (h:H a=some o) (h':H b=none):a≠b:=by
 intro e;subst e;rw [h] at h';cases h'
def Fh (h:Heap) (a:Addr) (items:Array Value):Prop:=∃ o,h.get? a=some o/\o.cls=.type "tuple" /\ o.dict=none/\∃ n,o.data=.seq items n
theorem Fh.tup {h:Heap} {a:Addr} {items:Array Value} (x:Fh h a items):IsTup h a items:=let ⟨o,e,c,_,d⟩:=x;⟨o,e,c,d⟩
theorem Fh.new (h:Heap) (items:Array Value):Fh (h.push { cls:=.type "tuple", data:=.seq items }) h.objs.size items:=⟨_,Heap.get?_push_size _ rfl,rfl,rfl,_,rfl⟩
section
variable (P:Program) (w:World)
def Al (H:Hp) (h:Heap) (a:Addr):HO->Prop
  | .lst xs=>xs.length<=sizeLine/\∃ (its:List Value) (n:Nat),AD xs its/\h.get? a=some { cls:=.type "list", data:=.seq its.toArray n }
  | .tup xs=>xs.length<=sizeLine/\∃ its:List Value,AD xs its/\Fh h a its.toArray
  | .dK kvs=>kvs.length<=sizeLine/\(a == sysModules)=false/\∃ vs,KV kvs vs/\h.DictOf (JK P w) a vs
  | .dT kvs=>kvs.length<=sizeLine/\(a == sysModules)=false/\∃ xs:List (List Ii×Addr×Value),
      Paired (fun (p:List Ii×V) (q:List Ii×Addr×Value)=>p.1=q.1/\H q.2.1=some (.tup (p.1.map kV))/\RelV p.2 q.2.2) kvs xs /\
      ∃ o es ep,h.get? a=some o/\o.ExactDict/\o.data=.dict es ep/\es.toList=xs.map (entryOfKey (tupleKind (JK P w)))/\(xs.map (·.1)).Nodup
  | .set S n=>h.SetOf (intKind P w) a S n
  | .ins C dx fs=>H dx=some (.own a)/\fs.length<=1000/\dx≠a/\h.get? a=some (W.instObj C dx) /\
      ∃ mA,h.Ns1 dx mA/\(∀ f,bS (fs.lookup f) (mA f))/\PySem.Within mA (fs.map (·.1))
  | .own _=>∃ o,h.get? a=some o
  | .xd fs=>∃ mA,h.Ns1 a mA/\∀ f,bS (fs.lookup f) (mA f)
  | .rng lo hi=>∃ t u v,h.get? a=some { cls:=.type "range", data:=.fields #[.int lo t,.int hi u,.int 1 v] }
  | .frz o u=>h.get? a=some o/\Al H h a u
  | .tbl ps=>h.get? a=some { cls:=.none,data:=.fields ps }
  | .met f x=>h.get? a=some (W.methodObj (.ref f) (.ref x))
  | .ext φ=>φ h/\(∃ o,h.get? a=some o)/\∀ h1 h2:Heap,φ h1->(∀ o,h1.get? a=some o->h2.get? a=some o)->φ h2
def Fi (H:Hp) (h:Heap):Prop:=∀ a o,H a=some o->Al P w H h a o
end
section
variable {P:Program} {w:World} {H H':Hp} {h h':Heap} {a:Addr} {o:HO}
theorem Al.lt (x:Al P w H h a o):a < h.objs.size:=by
 cases o with
 | lst xs=>obtain ⟨_,_,_,_,e⟩:=x;exact Heap.lt_size e
 | tup xs=>obtain ⟨_,_,_,p⟩:=x;exact p.tup.lt
 | dK kvs=>obtain ⟨_,_,_,_,o,_,_,e,_⟩:=x;exact Heap.lt_size e
 | dT kvs=>obtain ⟨_,_,_,_,o,_,_,e,_⟩:=x;exact Heap.lt_size e
 | set S n=>obtain ⟨o,_,_,_,e,_⟩:=x;exact Heap.lt_size e
 | ins C dx fs=>obtain ⟨_,_,_,e,_⟩:=x;exact Heap.lt_size e
 | own y=>obtain ⟨_,e⟩:=x;exact Heap.lt_size e
 | xd fs=>obtain ⟨_,⟨_,_,_,e,_⟩,_⟩:=x;exact Heap.lt_size e
 | rng lo hi=>obtain ⟨_,_,_,e⟩:=x;exact Heap.lt_size e
 | frz ob u=>obtain ⟨e,_⟩:=x;exact Heap.lt_size e
 | tbl ps=>exact Heap.lt_size (show h.get? a=some _ from x)
 | met f y=>exact Heap.lt_size (show h.get? a=some _ from x)
 | ext φ=>obtain ⟨_,⟨_,e⟩,_⟩:=x;exact Heap.lt_size e
theorem Paired.mapP {α β:Type} {F G:α->β->Prop}:∀ {l₁:List α} {l₂:List β},Paired F l₁ l₂->(∀ a b,F a b->G a b)->Paired G l₁ l₂
 | _,_,.nil,_=>.nil
 | _,_,.cons r t,f=>.cons (f _ _ r) (Paired.mapP t f)
theorem Al.stay (x:Al P w H h a o) (k:∀ b u,(b=a\/H b=some (.own a))->h.get? b=some u->h'.get? b=some u)
    (ho:∀ b,H b=some (.own a)->H' b=some (.own a)) (ht:∀ b xs,H b=some (.tup xs)->H' b=some (.tup xs)):Al P w H' h' a o:=by
  induction o with
  | lst xs=>obtain ⟨z,its,n,r,e⟩:=x;exact ⟨z,its,n,r,k _ _ (.inl rfl) e⟩
  | tup xs=>obtain ⟨z,its,r,ob,e,c⟩:=x;exact ⟨z,its,r,ob,k _ _ (.inl rfl) e,c⟩
  | dK kvs=>obtain ⟨z,y,vs,r,ob,es,ep,e,c⟩:=x;exact ⟨z,y,vs,r,ob,es,ep,k _ _ (.inl rfl) e,c⟩
  | dT kvs =>
    obtain ⟨z,y,xs,r,ob,es,ep,e,c⟩:=x;exact ⟨z,y,xs,Paired.mapP r fun p q z=>⟨z.1,ht _ _ z.2.1,z.2.2⟩,ob,es,ep,k _ _ (.inl rfl) e,c⟩
  | set S n=>obtain ⟨ob,es,ep,t,e,c⟩:=x;exact ⟨ob,es,ep,t,k _ _ (.inl rfl) e,c⟩
  | ins C dx fs =>
    obtain ⟨d,z,ne,e,mA,⟨od,es,ep,e2,c⟩,r⟩:=x;exact ⟨ho _ d,z,ne,k _ _ (.inl rfl) e,mA,⟨od,es,ep,k _ _ (.inr d) e2,c⟩,r⟩
  | own y=>obtain ⟨ob,e⟩:=x;exact ⟨ob,k _ _ (.inl rfl) e⟩
  | xd fs=>obtain ⟨mA,⟨od,es,ep,e,c⟩,r⟩:=x;exact ⟨mA,⟨od,es,ep,k _ _ (.inl rfl) e,c⟩,r⟩
  | rng lo hi=>obtain ⟨t,u,v,e⟩:=x;exact ⟨t,u,v,k _ _ (.inl rfl) e⟩
  | frz ob u ih=>obtain ⟨e,q⟩:=x;exact ⟨k _ _ (.inl rfl) e,ih q⟩
  | tbl ps =>
    have e:h.get? a=some { cls:=.none,data:=.fields ps }:=x;show h'.get? a=some { cls:=.none,data:=.fields ps };exact k a _ (.inl rfl) e
  | met f y =>
    have e:h.get? a=some (W.methodObj (.ref f) (.ref y)):=x;show h'.get? a=some (W.methodObj (.ref f) (.ref y));exact k a _ (.inl rfl) e
  | ext φ=>obtain ⟨p,⟨o,e⟩,st⟩:=x;exact ⟨st _ _ p fun o q=>k _ _ (.inl rfl) q,⟨o,k _ _ (.inl rfl) e⟩,st⟩
theorem Fi.lt (x:Fi P w H h) (e:H a=some o):a < h.objs.size:=(x a o e).lt
theorem Fi.fresh (x:Fi P w H h) (e:h.objs.size<=a):H a=none:=by
 cases q:H a with
 | none=>rfl
 | some u=>exact absurd (Nat.lt_of_lt_of_le (x.lt q) e) (Nat.lt_irrefl _)
theorem Fi.kept (x:Fi P w H h) (k:∀ b u,h.get? b=some u->h'.get? b=some u):Fi P w H h':=fun a o e =>
 (x a o e).stay (fun b u _ q=>k b u q) (fun _ q=>q) fun _ _ q=>q
theorem Fi.laid (x:Fi P w H h) (k:∀ b u,h.get? b=some u->h'.get? b=some u) (hp:h.objs.size<=a) (new:Al P w (upd H a o) h' a o):Fi P w (upd H a o) h':=fun b u e=>by
 have hn:=x.fresh hp
 by_cases hb:b=a
 ·subst hb;rw [Bh] at e;cases e;exact new
 ·rw [AL hb] at e;exact (x b u e).stay (fun c v _ q=>k c v q) (fun c q=>by rw [AL (Bc q hn)];exact q) fun c xs q=>by rw [AL (Bc q hn)];exact q
end
def Rd (H:Hp) (a:Addr) (u:HO):Prop:=H a=some u\/∃ o,H a=some (.frz o u)
theorem Rd.ok {P:Program} {w:World} {H:Hp} {h:Heap} {a:Addr} {u:HO} (r:Rd H a u) (x:Fi P w H h):Al P w H h a u:=by
 rcases r with r | ⟨o,r⟩
 ·exact x a u r
 ·obtain ⟨_,q⟩:=x a _ r;exact q
def fI:Option HO->Prop
 | some (.lst _)=>True
 | some (.dK _)=>True
 | some (.dT _)=>True
 | some (.set _ _)=>True
 | some (.ins _ _ _)=>True
 | some (.ext _)=>True
 | _=>False
section
variable {P:Program} {w:World} {H:Hp} {h h':Heap} {x e:Addr} {o':HO}
theorem Fi.write (ok:Fi P w H h) (mu:fI (H x)) (he:e=x\/H e=some (.own x)) (k:∀ b u,b≠e->h.get? b=some u->h'.get? b=some u) (heo:∃ u,h'.get? e=some u)
    (new:Al P w (upd H x o') h' x o'):Fi P w (upd H x o') h':=fun b u q=>by
  have nown:∀ c y,H c=some (.own y)->c≠x:=fun c y r z=>by subst z;rw [r] at mu;exact mu
  have ntup:∀ c xs,H c=some (.tup xs)->c≠x:=fun c xs r z=>by subst z;rw [r] at mu;exact mu
  by_cases hb:b=x
  · subst hb;rw [Bh] at q;cases q;exact new
  · rw [AL hb] at q
    by_cases hbe:b=e
    · have q':H b=some (.own x):=by
        rcases he with z | z
        · exact absurd (hbe.trans z) hb
        · rw [hbe];exact z
      rw [q] at q';cases q';obtain ⟨v,hv⟩:=heo;exact ⟨v,by rw [hbe];exact hv⟩
    · refine (ok b u q).stay (fun c v hc r=>k c v ?_ r) (fun c r=>by rw [AL (nown c b r)];exact r) fun c xs r=>by rw [AL (ntup c xs r)];exact r
      rcases hc with rfl | hc
      · exact hbe
      · rintro rfl;rcases he with z | z
        · exact nown c b hc z
        · rw [hc] at z;cases z;exact hb rfl
end
structure Un (fs ex:List Addr) (H H':Hp) (h h':Heap):Prop where
 keep:∀ b o,h.get? b=some o->H b=none->b∉fs->b∉ex->h'.get? b=some o
 slot:∀ b o,h.get? b=some o->H b=none->b∈fs->b∉ex->∃ sl,h'.get? b=some { o with slots:=sl }
 free:∀ b o,h.get? b=some o->H b=none->b∉ex->H' b=none
 there:∀ b o,h.get? b=some o->b∉ex->∃ o',h'.get? b=some o'
 tups:∀ b xs,H b=some (.tup xs)->H' b=some (.tup xs)
 frzs:∀ b o u,H b=some (.frz o u)->H' b=some (.frz o u)
 tbls:∀ b ps,H b=some (.tbl ps)->∃ more,H' b=some (.tbl (ps++more))
section
variable {fs fs' ex ex':List Addr} {H H1 H2:Hp} {h h1 h2 h':Heap} {a x e:Addr} {o:HO}
theorem Un.any (u:Un fs ex H H1 h h1) {b:Addr} {ob:Obj} (q:h.get? b=some ob) (n:H b=none) (hx:b∉ex):∃ sl,h1.get? b=some { ob with slots:=sl }:=by
 by_cases hb:b∈fs
 ·exact u.slot b ob q n hb hx
 ·exact ⟨ob.slots,u.keep b ob q n hb hx⟩
theorem Un.kept (k:∀ b u,h.get? b=some u->h'.get? b=some u):Un fs ex H H h h':=
 ⟨fun b ob q _ _ _=>k b ob q,fun b ob q _ _ _=>⟨ob.slots,k b ob q⟩,fun _ _ _ n _=>n,fun b ob q _=>⟨ob,k b ob q⟩,fun _ _ q=>q,fun _ _ _ q=>q,fun _ ps q=>⟨#[],by rw [q];simp⟩⟩
theorem Un.refl:Un fs ex H H h h:=Un.kept fun _ _ q=>q
theorem Un.laid (k:∀ b u,h.get? b=some u->h'.get? b=some u) (hp:h.objs.size<=a) (hn:H a=none):Un fs ex H (upd H a o) h h' where
 keep:=fun b u q _ _ _=>k b u q
 slot:=fun b u q _ _ _=>⟨u.slots,k b u q⟩
 free:=fun b u q n _=>by rw [AL (Nat.ne_of_lt (Nat.lt_of_lt_of_le (Heap.lt_size q) hp))];exact n
 there:=fun b u q _=>⟨u,k b u q⟩
 tups:=fun b xs q=>by rw [AL (Bc q hn)];exact q
 frzs:=fun b u xs q=>by rw [AL (Bc q hn)];exact q
 tbls:=fun b ps q=>⟨#[],by rw [AL (Bc q hn),q];simp⟩
theorem Un.write (mu:fI (H x)) (he:e=x\/H e=some (.own x)) (k:∀ b u,b≠e->h.get? b=some u->h'.get? b=some u) (heo:∃ u,h'.get? e=some u):Un fs ex H (upd H x o) h h':=by
 have hx:∀ b,H b=none->b≠x:=fun b n z=>by subst z;rw [n] at mu;exact mu
 have hb:∀ b,H b=none->b≠e:=fun b n z=>by
  subst z;rcases he with r | r
  ·exact hx b n r
  ·rw [n] at r;cases r
 have hm:∀ b u,H b=some u->¬ fI (some u)->b≠x:=fun b u q nm z=>by subst z;rw [q] at mu;exact nm mu
 refine ⟨fun b u q n _ _=>k b u (hb b n) q,fun b u q n _ _=>⟨u.slots,k b u (hb b n) q⟩,fun b u q n _=>by rw [AL (hx b n)];exact n,fun b u q _=>?_,
  fun b xs q=>by rw [AL (hm b _ q fun z=>z)];exact q,fun b u xs q=>by rw [AL (hm b _ q fun z=>z)];exact q,fun b ps q=>⟨#[],by rw [AL (hm b _ q fun z=>z),q];simp⟩⟩
 by_cases hbe:b=e
 ·subst hbe;exact heo
 ·exact ⟨u,k b u hbe q⟩
end
def fM (h:Heap) (H:Hp):List Addr:=(List.range h.objs.size).filter fun a=>(H a).isSome
def JS (h:Heap) (H:Hp):Heap:=W.hideAll h (fM h H)
theorem PC (h:Heap) (H:Hp):(JS h H).objs.size=h.objs.size:=W.hideAll_size _ _
theorem SJ {h:Heap} {H:Hp} {b:Addr} {o:Obj} (e:h.get? b=some o) (n:H b=none):(JS h H).get? b=some o:=
 W.hideAll_get _ e fun hm=>by
  have q:(H b).isSome=true:=(List.mem_filter.mp hm).2;rw [n] at q;simp at q
theorem Vd {h:Heap} {H:Hp} {b:Addr} {o:Obj} (e:(JS h H).get? b=some o):h.get? b=some o/\H b=none:=by
 have e':h.get? b=some o:=W.of_hideAll (fM h H) e;refine ⟨e',?_⟩;cases q:H b with
 | none=>rfl
 | some x =>
  have hm:b∈fM h H:=List.mem_filter.mpr ⟨List.mem_range.mpr (Heap.lt_size e'),by simp [q]⟩;have z:(JS h H).get? b=none:=W.hideAll_none (fM h H) hm;rw [z] at e;cases e
noncomputable def Ww (g h:Heap) (L:Addr):List (Addr×Obj):=(List.range h.objs.size).filterMap fun a=>if a=L\/(g.get? a).isSome=true then none else (h.get? a).map fun o=>(a,o)
def rest (g h:Heap) (L d:Addr):List (Addr×Obj):=(Ww g h L).filter fun p=>decide (p.1≠d)
structure Mod (K:W.Frag) (mg:Str->Option Value) (base:Heap):Prop where
 kin:K.In base
 glob:base.Ns mainGlobals mg
 blt:∃ mb,base.Ns builtinsNs mb/\∀ x:Str,x ≠ "__name__" -> mb x=bootBuiltins x
 nolimit:base.NoLimit
structure Cx where
 prog:Program
 w:World
 K:W.Frag
 mg:Str->Option Value
 base:Heap
 A:Around
 N:List Str
 s₀:Shared
 H₀:Hp
 env:Env
 outer:List Env
 stack:List Env
 ex:List Addr
 fn:Str->Bool
 calm:Bool
 pn:List (Addr×Obj)
 xe:Value->Shared->Prop
noncomputable def Ng (l:List Env):List Addr:=l.filterMap (·.frame)
abbrev Cx.fs (X:Cx):List Addr:=Ng X.outer
def fF (sc:Scope) (x:Str):Prop:=sc.names.lookup x=some .local\/sc.names.lookup x=some .cell\/sc.names.lookup x=some .free
def Loc (sc:Scope) (x:Str):Prop:=sc.names.lookup x=some .local\/sc.names.lookup x=some .cell
def Look (env:Env) (h:Heap) (m:Str->Option Value) (x:Str) (u:Value):Prop:=
 (env.kindOf x=some .local/\m x=some u)\/((env.kindOf x=some .cell\/env.kindOf x=some .free)/\∃ c,env.cells.lookup x=some c/\h.IsCell c (some u))
structure Cx.Ok (X:Cx):Prop where
 mod:Mod X.K X.mg X.base
 kind:X.env.scope.kind=.function
 glob:X.env.globals=mainGlobals
 blt:X.env.builtins=builtinsNs
 above:X.s₀.heap.objs.size<=X.env.locals
 inj:∀ x y c,X.env.cells.lookup x=some c->X.env.cells.lookup y=some c->x=y
 has:∀ x,(X.env.kindOf x=some .cell\/X.env.kindOf x=some .free)->∃ c,X.env.cells.lookup x=some c
 cab:∀ x c,X.fn x=true->X.env.cells.lookup x=some c->X.s₀.heap.objs.size<=c
 hd:X.calm=true->X.A.handled=none
 frames:X.A.frames=some X.stack
 stk:X.stack=X.outer\/(X.stack=X.env::X.outer/\X.env.frame=some X.env.locals)
 exf:∀ b∈X.ex,b≠X.env.locals/\∀ x c,X.env.cells.lookup x=some c->c≠b
 bs:∀ b o,X.base.get? b=some o->X.s₀.heap.get? b=some o/\X.H₀ b=none
 bsz:X.base.objs.size<=X.s₀.heap.objs.size
 noex:∀ b o,X.base.get? b=some o->b∉X.ex
 exfs:∀ b∈X.ex,b∉X.fs
 funs:X.s₀.heap.FunFrames X.base X.outer
 frf:∀ b∈X.fs,X.H₀ b=none
structure Inv (X:Cx) (pins:List (Addr×Obj)) (σ:List (Option V)) (H:Hp) (s:Shared):Prop where
 ok:X.Ok
 os:s.os=X.s₀.os
 bare:AllBare s.gens
 base:Un X.fs X.ex X.H₀ H X.s₀.heap s.heap
 loc:∃ m,s.heap.Ns X.env.locals m/\∀ (i:Nat) (x:Str) (v:V),X.N[i]?=some x->σ[i]?=some (some v)->fF X.env.scope x->∃ u,RelV v u/\Look X.env s.heap m x u
 cell:∀ x c,X.env.cells.lookup x=some c->∃ v,s.heap.IsCell c v
 free:H X.env.locals=none
 freeC:∀ x c,X.env.cells.lookup x=some c->H c=none
 pin:∀ p∈X.pn++pins,s.heap.get? p.1=some p.2/\H p.1=none/\p.1≠X.env.locals/\p.1∉X.fs/\∀ v,p.2.data≠.cell v
 hok:Fi X.prog X.w H s.heap
 len:σ.length=X.N.length
section
variable {X:Cx} {pins:List (Addr×Obj)} {σ:List (Option V)} {H H':Hp} {s:Shared} {h':Heap}
theorem Cx.Ok.nofr (ok:X.Ok) {b:Addr} {o:Obj} (e:X.base.get? b=some o):b∉X.fs:=fun hb=>by
 have:=(ok.funs.mem hb).1;rw [e] at this;cases this
theorem Inv.bs (I:Inv X pins σ H s):∀ b o,X.base.get? b=some o->s.heap.get? b=some o/\H b=none:=fun b o e =>
 ⟨I.base.keep b o (I.ok.bs b o e).1 (I.ok.bs b o e).2 (I.ok.nofr e) (I.ok.noex b o e),I.base.free b o (I.ok.bs b o e).1 (I.ok.bs b o e).2 (I.ok.noex b o e)⟩
theorem Inv.bk (I:Inv X pins σ H s):∀ b o,X.base.get? b=some o->s.heap.get? b=some o:=fun b o e=>(I.bs b o e).1
theorem Inv.mod (I:Inv X pins σ H s):Mod X.K X.mg X.base:=I.ok.mod
theorem Inv.kIn (I:Inv X pins σ H s):X.K.In s.heap:=I.ok.mod.kin.keeps I.bk
theorem Inv.fr (I:Inv X pins σ H s):∃ m,Fr X.base X.env.locals s.heap m:=
 let ⟨m,hn,_⟩:=I.loc
 ⟨m,hn,I.bk,Nat.le_trans I.ok.bsz I.ok.above⟩
theorem Inv.lt (I:Inv X pins σ H s):X.env.locals < s.heap.objs.size:=let ⟨_,hn,_⟩:=I.loc;hn.lt
theorem Inv.sz (I:Inv X pins σ H s):X.s₀.heap.objs.size<=s.heap.objs.size:=Nat.le_trans I.ok.above (Nat.le_of_lt I.lt)
theorem Inv.nofs (I:Inv X pins σ H s) {a:Addr} (h:s.heap.objs.size<=a):a∉X.fs:=fun hb=>by
 obtain ⟨_,o,ho,_⟩:=I.ok.funs.mem hb;exact absurd (Nat.lt_of_lt_of_le (Heap.lt_size ho) (Nat.le_trans I.sz h)) (Nat.lt_irrefl _)
theorem Inv.cne (I:Inv X pins σ H s):∀ x c,X.env.cells.lookup x=some c->c≠X.env.locals:=fun x c e z=>by
 obtain ⟨v,o,ho,hd⟩:=I.cell x c e;obtain ⟨m,⟨o',es,ep,ho',hd',_⟩,_⟩:=I.loc;rw [z,ho'] at ho;cases ho;rw [hd'] at hd;cases hd
theorem Inv.funs (I:Inv X pins σ H s):s.heap.FunFrames X.base X.outer:=by
 have all:∀ (l:List Env),(∀ b∈Ng l,b∈X.fs)->X.s₀.heap.FunFrames X.base l->s.heap.FunFrames X.base l:=by
  intro l
  induction l with
  | nil=>intro _ _;trivial
  | cons env r ih =>
   intro hs hl;obtain ⟨hk,⟨L,o,hf,hn,ho,hd⟩,hr⟩:=hl;have hL:L∈X.fs:=hs L (by unfold Ng;rw [List.filterMap_cons,hf];exact List.mem_cons_self);obtain ⟨sl,e⟩:=I.base.slot L o ho (I.ok.frf L hL) hL fun z=>I.ok.exfs L z hL
   exact ⟨hk,⟨L,_,hf,hn,e,hd⟩,ih (fun b hb=>hs b (by unfold Ng;rw [List.filterMap_cons,hf];exact List.mem_cons_of_mem _ hb)) hr⟩
 exact all X.outer (fun _ hb=>hb) I.ok.funs
theorem Inv.stack (I:Inv X pins σ H s):s.heap.FunFrames X.base X.stack:=by
 rcases I.ok.stk with e | ⟨e,hf⟩
 ·rw [e];exact I.funs
 ·rw [e];obtain ⟨m,hn,_⟩:=I.loc;refine .cons (by rw [I.ok.kind];decide) hf hn ?_ I.funs;exact Heap.get?_none_of_le (Nat.le_trans I.ok.bsz I.ok.above)
theorem Inv.stkSub (I:Inv X pins σ H s):∀ b∈Ng X.stack,b∈X.env.locals::X.fs:=fun b hb=>by
 rcases I.ok.stk with e | ⟨e,hf⟩
 ·rw [e] at hb;exact List.mem_cons_of_mem _ hb
 ·rw [e] at hb;unfold Ng at hb;rw [List.filterMap_cons,hf] at hb;exact hb
theorem Inv.stkFree (I:Inv X pins σ H s):∀ b∈Ng X.stack,H b=none:=fun b hb=>by
 rcases List.mem_cons.mp (I.stkSub b hb) with e | hb
 ·rw [e];exact I.free
 ·obtain ⟨_,o,ho,_⟩:=I.ok.funs.mem hb;exact I.base.free b o ho (I.ok.frf b hb) fun z=>I.ok.exfs b z hb
theorem Inv.step {g':Array GenState} {t':Nat} {d':Drawn} {ch:List Addr} (I:Inv X pins σ H s)
    (hch:∀ b∈ch,(b∈X.ex\/X.s₀.heap.objs.size<=b)/\b≠X.env.locals/\(∀ x c,X.env.cells.lookup x=some c->c≠b)/\∀ p∈X.pn++pins,p.1≠b)
    (keep:∀ b o,b≠X.env.locals->b∉X.fs->b∉ch->s.heap.get? b=some o->H b=none->h'.get? b=some o)
    (slot:∀ b o,b≠X.env.locals->b∈X.fs->b∉ch->s.heap.get? b=some o->H b=none->∃ sl,h'.get? b=some { o with slots:=sl }) (free:∀ b o,b∉ch->s.heap.get? b=some o->H b=none->H' b=none)
    (there:∀ b o,b∉ch->s.heap.get? b=some o->∃ o',h'.get? b=some o')
    (tups:∀ b xs,H b=some (.tup xs)->H' b=some (.tup xs)) (frzs:∀ b o u,H b=some (.frz o u)->H' b=some (.frz o u)) (tbls:∀ b ps,H b=some (.tbl ps)->∃ more,H' b=some (.tbl (ps++more)))
    (ns:∀ m,s.heap.Ns X.env.locals m->h'.Ns X.env.locals m) (hok:Fi X.prog X.w H' h') (hg:AllBare g') :
    Inv X pins σ H' { s with heap:=h',gens:=g',drawn:=d',toks:=t' }:=by
  have neL:∀ b o,X.s₀.heap.get? b=some o->b≠X.env.locals:=fun b o e=>Nat.ne_of_lt (Nat.lt_of_lt_of_le (Heap.lt_size e) I.ok.above)
  have neC:∀ b o,X.s₀.heap.get? b=some o->b∉X.ex->b∉ch:=fun b o e hx hb=>by
    rcases (hch b hb).1 with z | z
    · exact hx z
    · exact absurd (Nat.lt_of_lt_of_le (Heap.lt_size e) z) (Nat.lt_irrefl _)
  have cellK:∀ x c,X.env.cells.lookup x=some c->∀ v,s.heap.IsCell c v->h'.IsCell c v:=fun x c e v ⟨o,ho,hd⟩=>by
    have nch:c∉ch:=fun z=>(hch c z).2.2.1 x c e rfl
    by_cases hc:c∈X.fs
    · obtain ⟨sl,q⟩:=slot c o (I.cne x c e) hc nch ho (I.freeC x c e);exact ⟨_,q,hd⟩
    · exact ⟨o,keep c o (I.cne x c e) hc nch ho (I.freeC x c e),hd⟩
  refine ⟨I.ok,I.os,hg,⟨fun b o e n hb hx=>?_,fun b o e n hb hx=>?_,fun b o e n hx=>?_,fun b o e hx=>?_,fun b xs e=>tups b xs (I.base.tups b xs e),fun b o xs e=>frzs b o xs (I.base.frzs b o xs e),fun b ps e=>?_⟩,?_,fun x c e=>?_,?_,fun x c e=>?_,fun p hp=>?_,hok,I.len⟩
  · exact keep b o (neL b o e) hb (neC b o e hx) (I.base.keep b o e n hb hx) (I.base.free b o e n hx)
  · obtain ⟨sl,e1⟩:=I.base.slot b o e n hb hx;obtain ⟨sl',e2⟩:=slot b _ (neL b o e) hb (neC b o e hx) e1 (I.base.free b o e n hx);exact ⟨sl',e2⟩
  · obtain ⟨o',e1⟩:=I.base.there b o e hx;exact free b o' (neC b o e hx) e1 (I.base.free b o e n hx)
  · obtain ⟨o',e1⟩:=I.base.there b o e hx;exact there b o' (neC b o e hx) e1
  · obtain ⟨m1,e1⟩:=I.base.tbls b ps e;obtain ⟨m2,e2⟩:=tbls b _ e1;exact ⟨m1++m2,by rw [e2,Array.append_assoc]⟩
  · obtain ⟨m,hn,hl⟩:=I.loc;refine ⟨m,ns m hn,fun i x v e1 e2 e3=>?_⟩;obtain ⟨u,r,l⟩:=hl i x v e1 e2 e3;refine ⟨u,r,?_⟩;rcases l with l | ⟨k,c,e,z⟩
    · exact .inl l
    · exact .inr ⟨k,c,e,cellK x c e _ z⟩
  · obtain ⟨v,z⟩:=I.cell x c e;exact ⟨v,cellK x c e v z⟩
  · obtain ⟨m,⟨o,_,_,ho,_⟩,_⟩:=I.loc;exact free _ o (fun z=>(hch _ z).2.1 rfl) ho I.free
  · obtain ⟨v,o,ho,hd⟩:=I.cell x c e;exact free c o (fun z=>(hch c z).2.2.1 x c e rfl) ho (I.freeC x c e)
  · obtain ⟨e,n,ne,nf,d⟩:=I.pin p hp;have nch:p.1∉ch:=fun z=>(hch p.1 z).2.2.2 p hp rfl
    exact ⟨keep p.1 p.2 ne nf nch e n,free p.1 p.2 nch e n,ne,nf,d⟩
theorem Inv.un {t':Nat} (I:Inv X pins σ H s) (u:Un X.fs [] H H' s.heap h') (hok:Fi X.prog X.w H' h'):Inv X pins σ H' { s with heap:=h',toks:=t' }:=by
 obtain ⟨m,⟨o,es,ep,ho,r⟩,_⟩:=id I.loc;obtain ⟨sl,hL⟩:=u.any ho I.free (by simp);exact I.step (g':=s.gens) (d':=s.drawn) (ch:=[]) (fun _ z=>nomatch z) (fun b o _ hb _ e n=>u.keep b o e n hb (by simp)) (fun b o _ hb _ e n=>u.slot b o e n hb (by simp)) (fun b o _ e n=>u.free b o e n (by simp)) (fun b o _ e=>u.there b o e (by simp)) u.tups u.frzs u.tbls (fun m' hm=>by
  obtain ⟨o',es',ep',ho',r'⟩:=hm;rw [ho] at ho';cases ho';exact ⟨_,es',ep',hL,r'⟩) hok I.bare
theorem Inv.call {g':Array GenState} {t':Nat} {d':Drawn} {ch:List Addr} (I:Inv X pins σ H s) (u:Un (Ng X.stack) ch H H' s.heap h') (hok:Fi X.prog X.w H' h') (hg:AllBare g')
    (hch:∀ b∈ch,(b∈X.ex\/X.s₀.heap.objs.size<=b)/\b≠X.env.locals/\(∀ x c,X.env.cells.lookup x=some c->c≠b)/\∀ p∈X.pn++pins,p.1≠b) :
    Inv X pins σ H' { s with heap:=h',gens:=g',drawn:=d',toks:=t' }:=by
  obtain ⟨m,⟨o,es,ep,ho,r⟩,_⟩:=id I.loc;obtain ⟨sl,hL⟩:=u.any ho I.free fun z=>(hch _ z).2.1 rfl
  exact I.step (ch:=ch) hch (fun b o hL hb hc e n=>u.keep b o e n (fun z=>(List.mem_cons.mp (I.stkSub b z)).elim hL hb) hc) (fun b o _ _ hc e n=>u.any e n hc) (fun b o hc e n=>u.free b o e n hc) (fun b o hc e=>u.there b o e hc) u.tups u.frzs u.tbls (fun m' hm=>by
    obtain ⟨o',es',ep',ho',r'⟩:=hm;rw [ho] at ho';cases ho';exact ⟨_,es',ep',hL,r'⟩) hok hg
theorem Inv.turned {t':Nat} {it:Addr} (I:Inv X pins σ H s) (k:∀ b o,b≠it->s.heap.get? b=some o->h'.get? b=some o) (hn:H it=none) (hL:it≠X.env.locals)
    (h1:it∈X.ex\/X.s₀.heap.objs.size<=it) (h2:∀ x c,X.env.cells.lookup x=some c->c≠it) (h3:∀ p∈X.pn++pins,p.1≠it):Inv X pins σ H { s with heap:=h',toks:=t' }:=by
  have nit:∀ b u,H b=some u->b≠it:=fun b u e z=>by rw [z,hn] at e;cases e
  refine I.step (g':=s.gens) (d':=s.drawn) (ch:=[it]) (fun b hb=>?_) (fun b o _ _ hc e _=>k b o (fun z=>hc (by simp [z])) e) (fun b o _ _ hc e _=>⟨o.slots,k b o (fun z=>hc (by simp [z])) e⟩) (fun _ _ _ _ n=>n)
    (fun b o hc e=>⟨o,k b o (fun z=>hc (by simp [z])) e⟩) (fun _ _ e=>e) (fun _ _ _ e=>e) (fun b ps e=>⟨#[],by rw [e];simp⟩) (fun m hm=>?_) (fun b u e=>?_) I.bare
  · have e:b=it:=by simpa using hb
    subst e;exact ⟨h1,hL,h2,h3⟩
  · obtain ⟨o,es,ep,ho,r⟩:=hm;exact ⟨o,es,ep,k _ o (Ne.symm hL) ho,r⟩
  · refine (I.hok b u e).stay (fun c v hc q=>k c v ?_ q) (fun _ q=>q) fun _ _ q=>q
    rcases hc with z | z
    · rw [z];exact nit b u e
    · exact nit c _ z
theorem Inv.tok (I:Inv X pins σ H s) (t:Nat):Inv X pins σ H { s with toks:=t }:=I.un (h':=s.heap) (t':=t) Un.refl I.hok
theorem Inv.kept {t':Nat} (I:Inv X pins σ H s) (k:∀ b u,s.heap.get? b=some u->h'.get? b=some u):Inv X pins σ H { s with heap:=h',toks:=t' }:=I.un (Un.kept k) (I.hok.kept k)
theorem Inv.laid {a:Addr} {o:HO} {t':Nat} (I:Inv X pins σ H s) (k:∀ b u,s.heap.get? b=some u->h'.get? b=some u) (hp:s.heap.objs.size<=a) (new:Al X.prog X.w (upd H a o) h' a o) :
    Inv X pins σ (upd H a o) { s with heap:=h',toks:=t' }:=I.un (Un.laid k hp (I.hok.fresh hp)) (I.hok.laid k hp new)
theorem Inv.write {x e:Addr} {o:HO} {t':Nat} (I:Inv X pins σ H s) (mu:fI (H x)) (he:e=x\/H e=some (.own x)) (k:∀ b u,b≠e->s.heap.get? b=some u->h'.get? b=some u) (heo:∃ u,h'.get? e=some u)
    (new:Al X.prog X.w (upd H x o) h' x o):Inv X pins σ (upd H x o) { s with heap:=h',toks:=t' }:=I.un (Un.write mu he k heo) (I.hok.write mu he k heo new)
theorem Inv.weak {σ':List (Option V)} (I:Inv X pins σ H s) (hl:σ'.length=σ.length) (w:∀ (i:Nat) v,σ'[i]?=some (some v)->σ[i]?=some (some v)):Inv X pins σ' H s:=
 ⟨I.ok,I.os,I.bare,I.base,let ⟨m,hn,hl'⟩:=I.loc;⟨m,hn,fun i x v e1 e2 e3=>hl' i x v e1 (w i v e2) e3⟩,I.cell,I.free,I.freeC,I.pin,I.hok,hl.trans I.len⟩
theorem Inv.pins_of {pins':List (Addr×Obj)} (I:Inv X pins σ H s) (h:∀ p∈pins',s.heap.get? p.1=some p.2/\H p.1=none/\p.1≠X.env.locals/\p.1∉X.fs/\∀ v,p.2.data≠.cell v):Inv X pins' σ H s:=
 ⟨I.ok,I.os,I.bare,I.base,I.loc,I.cell,I.free,I.freeC,fun p hp=>(List.mem_append.mp hp).elim (fun z=>I.pin p (List.mem_append_left _ z)) (h p),I.hok,I.len⟩
theorem Kp {N:List Str} (hN:N.Nodup) {i j:Nat} {x:Str} (a:N[i]?=some x) (b:N[j]?=some x):i=j:=by
 obtain ⟨h1,e1⟩:=List.getElem?_eq_some_iff.mp a;obtain ⟨h2,e2⟩:=List.getElem?_eq_some_iff.mp b;exact (List.getElem_inj hN).mp (e1.trans e2.symm)
theorem Hu {M:Model} {A:Around} {E:Value->Shared->Prop} {i:Nat} {x:Str} {v:V} {u:Value} {Q:Unit->Shared->Prop} (I:Inv X pins σ H s) (hN:X.N.Nodup) (hi:X.N[i]?=some x) (hx:Loc X.env.scope x) (r:RelV v u)
    (h:∀ s',Inv X pins (σ.set i (some v)) H s'->(∃ a,Heap.SameBut a s.heap s'.heap/\(a=X.env.locals\/X.env.cells.lookup x=some a))->Q () s') (hf:X.fn x=true\/X.env.scope.names.lookup x=some .local:=by first | exact .inl rfl | exact .inr rfl | assumption):wpAny M A (storeName X.env x u) Q E s:=by
  obtain ⟨m,hn,hl⟩:=id I.loc;have hcls:(X.env.scope.kind == .class || (X.env.scope.kind == .module && X.env.locals != X.env.globals))=false:=by rw [I.ok.kind];rfl
  have hiσ:i < σ.length:=by rw [I.len];exact (List.getElem?_eq_some_iff.mp hi).1
  have cne:=I.cne;have tracked:∀ {a:Addr} {h':Heap},(∃ o,s.heap.get? a=some o/\H a=none)->Heap.SameBut a s.heap h'->Fi X.prog X.w H h':=fun {a h'} ha hs b ob e=>by
    obtain ⟨_,_,hfree⟩:=ha;refine (I.hok b ob e).stay (fun c w' hc q=>(hs.2 c ?_).trans q) (fun _ q=>q) fun _ _ q=>q
    rintro rfl;rcases hc with rfl | hc
    · rw [hfree] at e;cases e
    · rw [hfree] at hc;cases hc
  rcases hx with hk | hk
  · refine wpAny_storeName_local hk hn (fun h' hn' hs=>?_) hcls;obtain ⟨oL,_,_,hoL,_⟩:=id hn;refine h _ ⟨I.ok,I.os,I.bare,⟨fun b o e n hb hx=>?_,fun b o e n hb hx=>?_,I.base.free,fun b o e hx=>?_,I.base.tups,I.base.frzs,I.base.tbls⟩,⟨_,hn',fun j y v' e1 e2 e3=>?_⟩,fun y c e=>?_,I.free,I.freeC,fun p hp=>?_,tracked ⟨oL,hoL,I.free⟩ hs,by simpa using I.len⟩ ⟨_,hs,.inl rfl⟩
    · exact (hs.2 b (Nat.ne_of_lt (Nat.lt_of_lt_of_le (Heap.lt_size e) I.ok.above))).trans (I.base.keep b o e n hb hx)
    · obtain ⟨sl,e1⟩:=I.base.slot b o e n hb hx;exact ⟨sl,(hs.2 b (Nat.ne_of_lt (Nat.lt_of_lt_of_le (Heap.lt_size e) I.ok.above))).trans e1⟩
    · obtain ⟨o',e1⟩:=I.base.there b o e hx;exact ⟨o',(hs.2 b (Nat.ne_of_lt (Nat.lt_of_lt_of_le (Heap.lt_size e) I.ok.above))).trans e1⟩
    · by_cases hj:j=i
      · subst hj;rw [hi] at e1;cases e1;rw [List.getElem?_set_self hiσ] at e2;cases e2;exact ⟨u,r,.inl ⟨hk,by simp⟩⟩
      · rw [List.getElem?_set_ne (Ne.symm hj)] at e2;obtain ⟨u',r',q⟩:=hl j y v' e1 e2 e3;refine ⟨u',r',?_⟩;rcases q with ⟨k,e⟩ | ⟨k,c,e,z⟩
        · refine .inl ⟨k,?_⟩;have:y≠x:=fun e=>hj (Kp hN e1 (e▸hi))
          simp [this,e]
        · exact .inr ⟨k,c,e,z.sameBut hs (cne y c e)⟩
    · obtain ⟨w',z⟩:=I.cell y c e;exact ⟨w',z.sameBut hs (cne y c e)⟩
    · obtain ⟨e,n,ne,nf,d⟩:=I.pin p hp;exact ⟨(hs.2 p.1 ne).trans e,n,ne,nf,d⟩
  · have hfn:X.fn x=true:=by
      rcases hf with z | z
      · exact z
      · rw [z] at hk;cases hk
    obtain ⟨c,hc⟩:=I.ok.has x (.inl hk);obtain ⟨w',z⟩:=I.cell x c hc;refine wpAny_storeName_cell I.ok.kind hk hc z (fun h' hc' hs=>?_);obtain ⟨oc,hoc,hocd⟩:=id z;refine h { s with heap:=h' } ⟨I.ok,I.os,I.bare,⟨fun b o e n hb hx=>?_,fun b o e n hb hx=>?_,I.base.free,fun b o e hx=>?_,I.base.tups,I.base.frzs,I.base.tbls⟩,⟨m,hn.sameBut hs (Ne.symm (cne x c hc)),fun j y v' e1 e2 e3=>?_⟩,fun y c' e=>?_,I.free,I.freeC,fun p hp=>?_,tracked ⟨oc,hoc,I.freeC x c hc⟩ hs,by simpa using I.len⟩ ⟨c,hs,.inr hc⟩
    · exact (hs.2 b (Nat.ne_of_lt (Nat.lt_of_lt_of_le (Heap.lt_size e) (I.ok.cab x c hfn hc)))).trans (I.base.keep b o e n hb hx)
    · obtain ⟨sl,e1⟩:=I.base.slot b o e n hb hx;exact ⟨sl,(hs.2 b (Nat.ne_of_lt (Nat.lt_of_lt_of_le (Heap.lt_size e) (I.ok.cab x c hfn hc)))).trans e1⟩
    · obtain ⟨o',e1⟩:=I.base.there b o e hx;exact ⟨o',(hs.2 b (Nat.ne_of_lt (Nat.lt_of_lt_of_le (Heap.lt_size e) (I.ok.cab x c hfn hc)))).trans e1⟩
    · by_cases hj:j=i
      · subst hj;rw [hi] at e1;cases e1;rw [List.getElem?_set_self hiσ] at e2;cases e2;exact ⟨u,r,.inr ⟨.inl hk,c,hc,hc'⟩⟩
      · rw [List.getElem?_set_ne (Ne.symm hj)] at e2;obtain ⟨u',r',q⟩:=hl j y v' e1 e2 e3;refine ⟨u',r',?_⟩;rcases q with q | ⟨k,c',e,z'⟩
        · exact .inl q
        · refine .inr ⟨k,c',e,z'.sameBut hs ?_⟩;rintro rfl;exact hj (Kp hN e1 (I.ok.inj _ _ _ e hc▸hi))
    · by_cases hcc:c'=c
      · subst hcc;exact ⟨_,hc'⟩
      · obtain ⟨w2,z2⟩:=I.cell y c' e;exact ⟨w2,z2.sameBut hs hcc⟩
    · obtain ⟨e,n,ne,nf,d⟩:=I.pin p hp;refine ⟨(hs.2 p.1 ?_).trans e,n,ne,nf,d⟩;intro q;rw [q,hoc] at e;have q':oc=p.2:=Option.some.inj e;exact d w' (by rw [<- q'];exact hocd)
theorem DM {M:Model} {A:Around} {E:Value->Shared->Prop} {i:Nat} {x:Str} {v:V} {u:Value} {Q:Unit->Shared->Prop} (I:Inv X pins σ H s) (hN:X.N.Nodup) (hi:X.N[i]?=some x) (hx:Loc X.env.scope x) (r:RelV v u)
    (h:∀ s',Inv X pins (σ.set i (some v)) H s'->Q () s') (hf:X.fn x=true\/X.env.scope.names.lookup x=some .local:=by first | exact .inl rfl | exact .inr rfl | assumption):wpAny M A (storeName X.env x u) Q E s:=
  Hu I hN hi hx r (fun s' I' _=>h s' I') hf
theorem Inv.call' {s':Shared} {ch:List Addr} (I:Inv X pins σ H s) (ho:s'.os=s.os) (u:Un (Ng X.stack) ch H H' s.heap s'.heap) (hok:Fi X.prog X.w H' s'.heap) (hg:AllBare s'.gens)
    (hch:∀ b∈ch,(b∈X.ex\/X.s₀.heap.objs.size<=b)/\b≠X.env.locals/\(∀ x c,X.env.cells.lookup x=some c->c≠b)/\∀ p∈X.pn++pins,p.1≠b):Inv X pins σ H' s':=by
  obtain ⟨h',g',d',t',o'⟩:=s';have e:o'=s.os:=ho;subst e;exact I.call (g':=g') (t':=t') (d':=d') u hok hg hch
end
abbrev XK:=Value->Option Addr->Hp->Prop
noncomputable abbrev St:=List (Option V)
abbrev VK:=V->Hp->Prop
abbrev TE:=St->Hp->VK->Prop
abbrev TT:=St->Hp->(Bool->Hp->Prop)->Prop
abbrev TA:=St->Hp->(List V->Hp->Prop)->Prop
structure Ends where
 nx:St->Hp->Prop
 rt:VK
 bk:St->Hp->Prop:=fun _ _=>False
 ct:St->Hp->Prop:=fun _ _=>False
abbrev TS:=Ends->St->Hp->Prop
def EP (X:Cx) (pins:List (Addr×Obj)) (σ:St) (Q:VK) (u:Value) (s':Shared):Prop:=∃ v H',Inv X pins σ H' s'/\RelV v u/\Q v H'
def TP (X:Cx) (pins:List (Addr×Obj)) (σ:St) (Q:Bool->Hp->Prop) (b:Bool) (s':Shared):Prop:=∃ H',Inv X pins σ H' s'/\Q b H'
def AP (X:Cx) (pins:List (Addr×Obj)) (σ:St) (Q:List V->Hp->Prop) (us:List Value) (s':Shared):Prop:=∃ vs H',Inv X pins σ H' s'/\AD vs us/\Q vs H'
def SP (X:Cx) (pins:List (Addr×Obj)) (D:Ends) (f:Flow) (s':Shared):Prop:=
 match f with
 | .next=>∃ σ' H',Inv X pins σ' H' s'/\D.nx σ' H'
 | .brk=>∃ σ' H',Inv X pins σ' H' s'/\D.bk σ' H'
 | .cont=>∃ σ' H',Inv X pins σ' H' s'/\D.ct σ' H'
 | .ret u=>∃ v σ' H',Inv X pins σ' H' s'/\RelV v u/\D.rt v H'
def PE (X:Cx) (e:Expr) (t:TE):Prop:=
 ∀ (pins:List (Addr×Obj)) (s:Shared) (σ:St) (H:Hp) (Q:VK),Inv X pins σ H s->t σ H Q->wpAny (model X.prog X.w) X.A (eval e X.env) (EP X pins σ Q) X.xe s
def PT (X:Cx) (e:Expr) (t:TT):Prop:=
 ∀ (pins:List (Addr×Obj)) (s:Shared) (σ:St) (H:Hp) (Q:Bool->Hp->Prop),Inv X pins σ H s->t σ H Q->wpAny (model X.prog X.w) X.A (isTrue e X.env (eval e X.env)) (TP X pins σ Q) X.xe s
def PW (X:Cx) (e:Expr) (t:TT):Prop:=
 ∀ (whole:Sem Value) (pins:List (Addr×Obj)) (s:Shared) (σ:St) (H:Hp) (Q:Bool->Hp->Prop),Inv X pins σ H s->t σ H Q->wpAny (model X.prog X.w) X.A (isTrue e X.env whole) (TP X pins σ Q) X.xe s
theorem PW.pt {X:Cx} {e:Expr} {t:TT} (h:PW X e t):PT X e t:=h _
def PA (X:Cx) (es:List Expr) (t:TA):Prop:=
 ∀ (pos:Pos) (pins:List (Addr×Obj)) (s:Shared) (σ:St) (H:Hp) (Q:List V->Hp->Prop),Inv X pins σ H s->t σ H Q->wpAny (model X.prog X.w) X.A (spliced (backTo pos (starEach es X.env))) (AP X pins σ Q) X.xe s
def PS (X:Cx) (st:Stmt) (t:TS):Prop:=
 ∀ (pins:List (Addr×Obj)) (s:Shared) (σ:St) (H:Hp) (D:Ends),Inv X pins σ H s->t D σ H->wpAny (model X.prog X.w) X.A (exec st X.env) (SP X pins D) X.xe s
def DL (X:Cx) (st:List Stmt) (t:TS):Prop:=
 ∀ (pins:List (Addr×Obj)) (s:Shared) (σ:St) (H:Hp) (D:Ends),Inv X pins σ H s->t D σ H->wpAny (model X.prog X.w) X.A (execs st X.env) (SP X pins D) X.xe s
theorem AZ {α:Type} {t:Sem α} {Q Q':α->Shared->Prop} {M:Model} {A:Around} {E:Value->Shared->Prop} {s:Shared} (h:wpAny M A t Q E s) (hQ:∀ a s,Q a s->Q' a s):wpAny M A t Q' E s:=wpAny_mono h hQ fun _ _ x=>x
section
variable {X:Cx}
theorem bin {a b:Expr} {ta tb:TE} (ha:PE X a ta) (hb:PE X b tb) {pins:List (Addr×Obj)} {s:Shared} {σ:St} {H:Hp} {R:V->V->Hp->Prop} (I:Inv X pins σ H s) (h:ta σ H fun x H1=>tb σ H1 fun y H2=>R x y H2)
    {α:Type} {Q:α->Shared->Prop} {f:Value->Value->Sem α}
    (hf:∀ v u s2 x y H2,Inv X pins σ H2 s2->RelV x v->RelV y u->R x y H2->wpAny (model X.prog X.w) X.A (f v u) Q X.xe s2) :
    wpAny (model X.prog X.w) X.A (eval a X.env) (fun v s₁=>wpAny (model X.prog X.w) X.A (eval b X.env) (fun u s₂=>wpAny (model X.prog X.w) X.A (f v u) Q X.xe s₂) X.xe s₁) X.xe s:=by
  refine AZ (ha pins s σ H _ I h) fun v s1 ⟨x,H1,I1,r1,q1⟩=>?_
  refine AZ (hb pins s1 σ H1 _ I1 q1) fun u s2 ⟨y,H2,I2,r2,q2⟩=>?_
  exact hf v u s2 x y H2 I2 r1 r2 q2
abbrev HS (i:Nat):TE:=fun σ H Q=>∃ v,σ[i]?=some (some v)/\Q v H
abbrev tC (v:V):TE:=fun _ H Q=>Q v H
theorem ZP {i:Nat} {x:Str} {pos:Pos} (hN:X.N[i]?=some x) (hv:fF X.env.scope x) (hd:(x == ("__debug__" : Str))=false:=by decide) (hcd:(x == ("__classdict__" : Str))=false:=by decide):PE X (.Name x pos) (HS i):=by
 intro pins s σ H Q I h;obtain ⟨v,e,h⟩:=h;obtain ⟨m,hn,hl⟩:=I.loc;obtain ⟨u,r,l⟩:=hl i x v hN e hv;have fin:EP X pins σ Q u s:=⟨v,H,I,r,h⟩;rcases l with ⟨hk,hm⟩ | ⟨hk,c,hc,hcell⟩
 ·exact wpAny_Name (wpAny_loadName_local I.ok.kind hk hn hm fin) hd
 ·rcases hk with hk | hk
  ·exact wpAny_Name (wpAny_loadName_cell I.ok.kind hk hc hcell fin) hd
  ·exact wpAny_Name (wpAny_loadName_free I.ok.kind hk hc hcell fin hcd) hd
theorem ZW {i j pos}:PE X (.Constant (.int i) j pos) (tC (.int i)):=fun _ _ _ H _ I h=>wpAny_Constant_int ⟨.int i,H,I.tok _,⟨_,rfl⟩,h⟩
theorem dN {b j pos}:PE X (.Constant (.bool b) j pos) (tC (.bl b)):=fun _ _ _ H _ I h=>Constant_bool ⟨.bl b,H,I,rfl,h⟩
theorem ZU {j pos}:PE X (.Constant .none j pos) (tC .non):=fun _ _ _ H _ I h=>Constant_none ⟨.non,H,I,rfl,h⟩
theorem ZR {x j pos}:PE X (.Constant (.str x) j pos) (tC (.str x)):=fun _ _ _ H _ I h=>Calls.Constant_str ⟨.str x,H,I.tok _,⟨_,rfl⟩,h⟩
def Gl (X:Cx) (x:Str):Prop:=X.env.kindOf x=some .globalImplicit
theorem JN {E:Value->Shared->Prop} {pins:List (Addr×Obj)} {s:Shared} {σ:St} {H:Hp} {x:Str} {u:Value} {pos:Pos} {Q:Value->Shared->Prop} (I:Inv X pins σ H s) (hg:Gl X x) (hm:X.mg x=some u) (h:Q u s)
    (hd:(x == ("__debug__" : Str))=false:=by decide):wpAny (model X.prog X.w) X.A (eval (.Name x pos) X.env) Q E s:=
  Calls.Name_function_global I.ok.kind hg (Calls.loadGlobal_global (by rw [I.ok.glob];exact I.mod.glob.keeps I.bk) hm h) hd
theorem BR {E:Value->Shared->Prop} {pins:List (Addr×Obj)} {s:Shared} {σ:St} {H:Hp} {x:Str} {u:Value} {pos:Pos} {Q:Value->Shared->Prop} (I:Inv X pins σ H s) (hg:Gl X x) (hm:X.mg x=none) (hv:bootBuiltins x=some u) (h:Q u s)
    (hn:x ≠ "__name__" := by decide) (hd:(x == ("__debug__" : Str))=false:=by decide):wpAny (model X.prog X.w) X.A (eval (.Name x pos) X.env) Q E s:=by
  obtain ⟨mb,h1,h2⟩:=I.mod.blt;exact Calls.Name_function_global I.ok.kind hg (Calls.loadGlobal_builtin (by rw [I.ok.glob];exact I.mod.glob.keeps I.bk) hm (by rw [I.ok.blt];exact h1.keeps I.bk) ((h2 x hn).trans hv) h) hd
theorem VR {x:Str} {v:V} {u:Value} {pos:Pos} (hg:Gl X x) (hm:X.mg x=some u) (r:RelV v u) (hd:(x == ("__debug__" : Str))=false:=by decide):PE X (.Name x pos) (tC v):=
 fun _ _ _ H _ I h=>JN I hg hm ⟨v,H,I,r,h⟩ hd
theorem VU {x:Str} {v:V} {u:Value} {pos:Pos} (hg:Gl X x) (hm:X.mg x=none) (hv:bootBuiltins x=some u) (r:RelV v u) (hn:x ≠ "__name__" := by decide) (hd:(x == ("__debug__" : Str))=false:=by decide):PE X (.Name x pos) (tC v):=
 fun _ _ _ H _ I h=>BR I hg hm hv ⟨v,H,I,r,h⟩ hn hd
variable {a b:Expr} {ta tb:TE} {pos:Pos}
variable {tA XR:TT} {rest:List Expr}
abbrev cE (t u:TT):TT:=fun σ H Q=>t σ H fun c H1=>if c=true then u σ H1 Q else Q false H1
abbrev iD (t u:TT):TT:=fun σ H Q=>t σ H fun c H1=>if c=true then Q true H1 else u σ H1 Q
abbrev bw (t:TT):TT:=fun σ H Q=>t σ H fun c H1=>Q (!c) H1
theorem Ur (ha:PT X a tA):PW X (.BoolOp .And [a] pos) tA:=by
 intro wh pins s σ H Q I h;refine isTrue_and (AZ (ha pins s σ H Q I h) fun c s1 e=>?_);cases c with
 | true=>exact isTrue_and_nil e
 | false=>exact e
theorem Ys (ha:PT X a tA):PW X (.BoolOp .Or [a] pos) tA:=by
 intro wh pins s σ H Q I h;refine isTrue_or (AZ (ha pins s σ H Q I h) fun c s1 e=>?_);cases c with
 | false=>exact isTrue_or_nil e
 | true=>exact e
theorem Yt (ha:PT X a tA) (hb:PW X (.BoolOp .And (b::rest) pos) XR):PW X (.BoolOp .And (a::b::rest) pos) (cE tA XR):=by
 intro wh pins s σ H Q I h;refine isTrue_and (AZ (ha pins s σ H _ I h) fun c s1 ⟨H1,I1,q1⟩=>?_);cases c with
 | true=>exact hb wh pins s1 σ H1 Q I1 q1
 | false=>exact ⟨H1,I1,q1⟩
theorem cz (ha:PT X a tA) (hb:PW X (.BoolOp .Or (b::rest) pos) XR):PW X (.BoolOp .Or (a::b::rest) pos) (iD tA XR):=by
 intro wh pins s σ H Q I h;refine isTrue_or (AZ (ha pins s σ H _ I h) fun c s1 ⟨H1,I1,q1⟩=>?_);cases c with
 | true=>exact ⟨H1,I1,q1⟩
 | false=>exact hb wh pins s1 σ H1 Q I1 q1
theorem Yu (ha:PT X a tA):PT X (.UnaryOp .Not a pos) (bw tA):=by
 intro pins s σ H Q I h;exact isTrue_not (ha pins s σ H (fun c H1=>Q (!c) H1) I h)
abbrev XS (ta tb:TE):TE:=fun σ H Q=>ta σ H fun x H1=>∃ c,x=.bl c/\if c=true then tb σ H1 Q else Q (.bl false) H1
abbrev bu (ta tb:TE):TE:=fun σ H Q=>ta σ H fun x H1=>∃ c,x=.bl c/\if c=true then Q (.bl true) H1 else tb σ H1 Q
abbrev XM (ta:TE):TE:=fun σ H Q=>ta σ H fun x H1=>∃ c,x=.bl c/\Q (.bl (!c)) H1
theorem ZS {op} {t:TE} (h:PE X a t):PE X (.BoolOp op [a] pos) t:=fun pins s σ H Q I hw=>BoolOp_one (h pins s σ H Q I hw)
theorem ZX (ha:PE X a ta) (hb:PE X (.BoolOp .And (b::rest) pos) tb):PE X (.BoolOp .And (a::b::rest) pos) (XS ta tb):=by
 intro pins s σ H Q I h;refine BoolOp_and (AZ (ha pins s σ H _ I h) fun v s1 ⟨x,H1,I1,r1,q1⟩=>?_);obtain ⟨c,rfl,q1⟩:=q1;cases r1;refine wpAny_truthy_bool ?_;cases c with
 | true=>exact hb pins s1 σ H1 Q I1 q1
 | false=>exact ⟨.bl false,H1,I1,rfl,q1⟩
theorem dH (ha:PE X a ta) (hb:PE X (.BoolOp .Or (b::rest) pos) tb):PE X (.BoolOp .Or (a::b::rest) pos) (bu ta tb):=by
 intro pins s σ H Q I h;refine BoolOp_or (AZ (ha pins s σ H _ I h) fun v s1 ⟨x,H1,I1,r1,q1⟩=>?_);obtain ⟨c,rfl,q1⟩:=q1;cases r1;refine wpAny_truthy_bool ?_;cases c with
 | false=>exact hb pins s1 σ H1 Q I1 q1
 | true=>exact ⟨.bl true,H1,I1,rfl,q1⟩
theorem ZT (ha:PE X a ta):PE X (.UnaryOp .Not a pos) (XM ta):=by
 intro pins s σ H Q I h;refine UnaryOp_ (AZ (ha pins s σ H _ I h) fun v s1 ⟨x,H1,I1,r1,q1⟩=>?_);obtain ⟨c,rfl,q1⟩:=q1;cases r1;exact not_of (wpAny_truthy_bool ⟨.bl (!c),H1,I1,rfl,q1⟩)
abbrev iE (t:TT) (ta tb:TE):TE:=fun σ H Q=>t σ H fun c H1=>if c=true then ta σ H1 Q else tb σ H1 Q
theorem Rc {c:Expr} (hc:PT X c tA) (ha:PE X a ta) (hb:PE X b tb):PE X (.IfExp c a b pos) (iE tA ta tb):=by
 intro pins s σ H Q I h;refine wpAny_IfExp (AZ (hc pins s σ H _ I h) fun d s1 ⟨H1,I1,q1⟩=>?_);cases d with
 | true=>exact ha pins s1 σ H1 Q I1 q1
 | false=>exact hb pins s1 σ H1 Q I1 q1
end
def Bq (K:W.Frag) (H:Hp) (a:Addr) (xs:List V):Prop:=
 Rd H a (.lst xs) \/
  ∃ (o:Obj) (its:Array Value) (n:Nat),K.lookup a=some o/\o.cls=.type "list" /\ o.dict=none/\o.data=.seq its n/\its.size<=sizeLine/\AD xs its.toList
def Ds (K:W.Frag) (H:Hp) (a:Addr) (xs:List V):Prop:=
 Rd H a (.tup xs) \/
  ∃ (o:Obj) (its:Array Value) (n:Nat),K.lookup a=some o/\o.cls=.type "tuple" /\ o.data=.seq its n/\its.size<=sizeLine/\AD xs its.toList
noncomputable def gr:Value->Option V
 | .none=>some .non
 | .bool b=>some (.bl b)
 | .int i _=>some (.int i)
 | .str x _=>some (.str x)
 | .bytes b _=>some (.byt b)
 | .float b _=>some (.flt b)
 | .ref a=>some (.ref a)
 | .type n=>some (.ty n)
 | _=>none
theorem RelV.abs {x:V} {u:Value} (r:RelV x u):gr u=some x:=by
 cases x with
 | non=>cases r;rfl
 | bl _=>cases r;rfl
 | int _=>obtain ⟨t,rfl⟩:=r;rfl
 | str _=>obtain ⟨t,rfl⟩:=r;rfl
 | byt _=>obtain ⟨t,rfl⟩:=r;rfl
 | flt _=>obtain ⟨t,rfl⟩:=r;rfl
 | ref _=>cases r;rfl
 | ty _=>cases r;rfl
theorem RelV.inj {x y:V} {u:Value} (r:RelV x u) (q:RelV y u):x=y:=Option.some.inj (r.abs.symm.trans q.abs)
theorem AD.inj:∀ {xs ys:List V} {us:List Value},AD xs us->AD ys us->xs=ys
 | _,_,_,.nil,.nil=>rfl
 | _,_,_,.cons r t,.cons r' t'=>by rw [r.inj r',AD.inj t t']
section
variable {X:Cx} {pins:List (Addr×Obj)} {σ:St} {H:Hp} {s:Shared} {a:Addr} {xs ys:List V}
theorem Inv.list (I:Inv X pins σ H s) (h:Bq X.K H a xs):∃ its:List Value,AD xs its/\PlainL s.heap a its.toArray/\xs.length<=sizeLine:=by
 rcases h with h | ⟨o,its,n,hk,hc,hd,hs,hz,r⟩
 ·obtain ⟨z,its,n,r,e⟩:=h.ok I.hok;exact ⟨its,r,⟨_,n,e,rfl,rfl,rfl⟩,z⟩
 ·refine ⟨its.toList,r,⟨o,n,I.kIn a o hk,hc,hd,by simpa using hs⟩,?_⟩;have e:=r.length;simp only [Array.length_toList] at e;omega
theorem Inv.tuple (I:Inv X pins σ H s) (h:Ds X.K H a xs):∃ its:List Value,AD xs its/\IsTup s.heap a its.toArray/\xs.length<=sizeLine:=by
 rcases h with h | ⟨o,its,n,hk,hc,hs,hz,r⟩
 ·obtain ⟨z,its,r,p⟩:=h.ok I.hok;exact ⟨its,r,p.tup,z⟩
 ·refine ⟨its.toList,r,⟨o,I.kIn a o hk,hc,n,by simpa using hs⟩,?_⟩;have e:=r.length;simp only [Array.length_toList] at e;omega
theorem Inv.list_inj (I:Inv X pins σ H s) (h:Bq X.K H a xs) (h':Bq X.K H a ys):xs=ys:=by
 obtain ⟨its,r,⟨o,n,e,_,_,d⟩,_⟩:=I.list h;obtain ⟨its',r',⟨o',n',e',_,_,d'⟩,_⟩:=I.list h';rw [e] at e';cases e';rw [d] at d';injection d' with d1 _
 have:its=its':=by simpa using congrArg Array.toList d1
 subst this;exact r.inj r'
theorem Inv.tuple_inj (I:Inv X pins σ H s) (h:Ds X.K H a xs) (h':Ds X.K H a ys):xs=ys:=by
 obtain ⟨its,r,⟨o,e,_,n,d⟩,_⟩:=I.tuple h;obtain ⟨its',r',⟨o',e',_,n',d'⟩,_⟩:=I.tuple h';rw [e] at e';cases e';rw [d] at d';injection d' with d1 _
 have:its=its':=by simpa using congrArg Array.toList d1
 subst this;exact r.inj r'
end
noncomputable abbrev Cx.wish (X:Cx) (E:Value->Shared->Prop):Cx:={ X with xe:=E }
noncomputable abbrev Cx.nox (X:Cx):Cx:=X.wish fun _ _=>False
theorem Cx.Ok.wish {X:Cx} (ok:X.Ok) (E:Value->Shared->Prop):(X.wish E).Ok:=
 ⟨ok.mod,ok.kind,ok.glob,ok.blt,ok.above,ok.inj,ok.has,ok.cab,ok.hd,ok.frames,ok.stk,ok.exf,ok.bs,ok.bsz,ok.noex,ok.exfs,ok.funs,ok.frf⟩
theorem Cx.Ok.unwish {X:Cx} {E:Value->Shared->Prop} (ok:(X.wish E).Ok):X.Ok:=
 ⟨ok.mod,ok.kind,ok.glob,ok.blt,ok.above,ok.inj,ok.has,ok.cab,ok.hd,ok.frames,ok.stk,ok.exf,ok.bs,ok.bsz,ok.noex,ok.exfs,ok.funs,ok.frf⟩
section
variable {X:Cx} {pins:List (Addr×Obj)} {σ:St} {H:Hp} {s:Shared} {E:Value->Shared->Prop}
theorem Inv.wish (I:Inv X pins σ H s) (E:Value->Shared->Prop):Inv (X.wish E) pins σ H s:=⟨I.ok.wish E,I.os,I.bare,I.base,I.loc,I.cell,I.free,I.freeC,I.pin,I.hok,I.len⟩
theorem Inv.unwish (I:Inv (X.wish E) pins σ H s):Inv X pins σ H s:=⟨I.ok.unwish,I.os,I.bare,I.base,I.loc,I.cell,I.free,I.freeC,I.pin,I.hok,I.len⟩
theorem SP.unwish {D:Ends} {f:Flow} {s':Shared} (h:SP (X.wish E) pins D f s'):SP X pins D f s':=by
 cases f with
 | next=>obtain ⟨σ',H',I,q⟩:=h;exact ⟨σ',H',I.unwish,q⟩
 | brk=>obtain ⟨σ',H',I,q⟩:=h;exact ⟨σ',H',I.unwish,q⟩
 | cont=>obtain ⟨σ',H',I,q⟩:=h;exact ⟨σ',H',I.unwish,q⟩
 | ret u=>obtain ⟨v,σ',H',I,r,q⟩:=h;exact ⟨v,σ',H',I.unwish,r,q⟩
theorem DL.nox {st:List Stmt} {t:TS} (h:DL X.nox st t):DL X st t:=fun pins s σ H D I hw =>
 wpAny_mono (h pins s σ H D (I.wish _) hw) (fun _ _ q=>q.unwish) fun _ _ z=>False.elim z
end
section
variable {X:Cx} {st:Stmt} {rest:List Stmt} {t u:TS} {e:Expr} {te:TE} {pos:Pos}
abbrev QT:TS:=fun D σ H=>D.nx σ H
abbrev gC (t u:TS):TS:=fun D σ H=>t { D with nx:=u D } σ H
theorem Uu:DL X [] QT:=fun _ _ σ H _ I h=>wpAny_execs_nil ⟨σ,H,I,h⟩
theorem Kg (h1:PS X st t) (h2:DL X rest u):DL X (st::rest) (gC t u):=by
 intro pins s σ H D I h;refine wpAny_execs_cons (AZ (h1 pins s σ H { D with nx:=u D } I h) fun f s1 q=>?_);cases f with
 | next =>
  obtain ⟨σ',H',I',q⟩:=q;exact h2 pins s1 σ' H' D I' q
 | ret v=>exact q
 | brk=>exact q
 | cont=>exact q
theorem Ut (h1:PS X st t):DL X [st] t:=by
 intro pins s σ H D I h;refine wpAny_execs_cons (AZ (h1 pins s σ H D I h) fun f s1 q=>?_);cases f with
 | next=>exact wpAny_execs_nil q
 | ret v=>exact q
 | brk=>exact q
 | cont=>exact q
abbrev YV:TS:=fun D σ H=>D.bk σ H
abbrev cB:TS:=fun D σ H=>D.ct σ H
theorem Uv:PS X (.Pass pos) QT:=fun _ _ σ H _ I h=>wpAny_Pass ⟨σ,H,I,h⟩
theorem RK:PS X (.Break pos) YV:=fun _ _ σ H _ I h=>wpAny_Break ⟨σ,H,I,h⟩
theorem Kj:PS X (.Continue pos) cB:=fun _ _ σ H _ I h=>wpAny_Continue ⟨σ,H,I,h⟩
theorem Inv.quiet {pins:List (Addr×Obj)} {σ:St} {H:Hp} {s:Shared} (I:Inv X pins σ H s):interactive X.env=false:=by simp [interactive,I.ok.kind]
theorem Yy {x j pos pos'}:PS X (.Expr (.Constant (.str x) j pos) pos') QT:=fun _ s σ H _ I h=>wpAny_Expr (Calls.Constant_str (show SP X _ _ .next { s with toks:=s.toks+1 } from ⟨σ,H,I.tok _,h⟩)) I.quiet
abbrev cA (te:TE):TS:=fun D σ H=>te σ H fun _ H1=>D.nx σ H1
theorem Uw (he:PE X e te) (hs:swapsWith e none pos.line X.env=pure false:=by rfl):PS X (.Expr e pos) (cA te):=by
 intro pins s σ H D I h;exact wpAny_Expr_any (AZ (he pins s σ H _ I h) fun v s1 ⟨x,H1,I1,r1,q1⟩=>⟨σ,H1,I1,q1⟩) I.quiet hs
abbrev gD (te:TE):TS:=fun D σ H=>te σ H D.rt
theorem Yw (he:PE X e te):PS X (.Return (some e) pos) (gD te):=by
 intro pins s σ H D I h;exact wpAny_Return_some (AZ (he pins s σ H _ I h) fun v s1 ⟨x,H1,I1,r1,q1⟩=>⟨x,σ,H1,I1,r1,q1⟩)
abbrev gG (c:TT) (t u:TS):TS:=fun D σ H=>c σ H fun b H1=>if b=true then t D σ H1 else u D σ H1
theorem dD {c:Expr} {a b:List Stmt} {tc:TT} (hc:PT X c tc) (ha:DL X a t) (hb:DL X b u):PS X (.If c a b pos) (gG tc t u):=by
 intro pins s σ H D I h;refine wpAny_If (AZ (hc pins s σ H _ I h) fun d s1 ⟨H1,I1,q1⟩=>?_);cases d with
 | true=>exact ha pins s1 σ H1 D I1 q1
 | false=>exact hb pins s1 σ H1 D I1 q1
end
abbrev TG:=V->St->Hp->(St->Hp->Prop)->Prop
abbrev Mv:=List V->St->Hp->(St->Hp->Prop)->Prop
def PG (X:Cx) (target:Expr) (t:TG):Prop:=
 ∀ (pins:List (Addr×Obj)) (s:Shared) (σ:St) (H:Hp) (v:V) (u:Value) (Q:St->Hp->Prop),Inv X pins σ H s->RelV v u->t v σ H Q ->
  wpAny (model X.prog X.w) X.A (assign target X.env u) (fun _ s'=>∃ σ' H',Inv X pins σ' H' s'/\Q σ' H') X.xe s
def bc (X:Cx) (ts:List Expr) (t:Mv):Prop:=
 ∀ (pins:List (Addr×Obj)) (s:Shared) (σ:St) (H:Hp) (vs:List V) (us:List Value) (Q:St->Hp->Prop),Inv X pins σ H s->AD vs us->t vs σ H Q ->
  wpAny (model X.prog X.w) X.A (assignInOrder ((assignEach ts X.env).map (·.2)) us) (fun _ s'=>∃ σ' H',Inv X pins σ' H' s'/\Q σ' H') X.xe s
abbrev UA:=V->V->V->Hp->(Hp->Prop)->Prop
def Wy (X:Cx) (t:UA):Prop:=
 ∀ (pins:List (Addr×Obj)) (s:Shared) (σ:St) (H:Hp) (o i v:V) (ov iv u:Value) (Q:Hp->Prop),Inv X pins σ H s->RelV o ov->RelV i iv->RelV v u->t o i v H Q ->
  wpAny (model X.prog X.w) X.A (setItem ov iv u) (fun _ s'=>∃ H',Inv X pins σ H' s'/\Q H') X.xe s
abbrev fh:=V->V->Hp->VK->Prop
def gy (X:Cx) (op:Operator) (t:fh):Prop:=
 ∀ (pins:List (Addr×Obj)) (s:Shared) (σ:St) (H:Hp) (x y:V) (v u:Value) (Q:VK),Inv X pins σ H s->RelV x v->RelV y u->t x y H Q ->
  wpAny (model X.prog X.w) X.A (inplaceOp op v u) (EP X pins σ Q) X.xe s
section
variable {X:Cx} {pos:Pos}
abbrev DW (i:Nat):TG:=fun v σ H Q=>Q (σ.set i (some v)) H
theorem VP {i:Nat} {x:Str} (hN:X.N.Nodup) (hi:X.N[i]?=some x) (hx:Loc X.env.scope x) (hf:X.fn x=true\/X.env.scope.names.lookup x=some .local:=by first | exact .inl rfl | exact .inr rfl | assumption):PG X (.Name x pos) (DW i):=by
 intro pins s σ H v u Q I r h;exact wpAny_assign_Name (DM I hN hi hx r (fun s' I'=>⟨_,H,I',h⟩) hf)
abbrev aM:Mv:=fun vs σ H Q=>vs=[]/\Q σ H
abbrev SM (t:TG) (u:Mv):Mv:=fun vs σ H Q=>∃ v r,vs=v::r/\t v σ H fun σ' H'=>u r σ' H' Q
theorem VO:bc X [] aM:=by
 intro pins s σ H vs us Q I r h;obtain ⟨e,h⟩:=h;subst e;cases r;exact assignInOrder_nil ⟨σ,H,I,h⟩
theorem Ra {e:Expr} {es:List Expr} {t:TG} {u:Mv} (h1:PG X e t) (h2:bc X es u)
    (hs:(assignEach (e::es) X.env).map (·.2)=assign e X.env::(assignEach es X.env).map (·.2):=by rfl):bc X (e::es) (SM t u):=by
  intro pins s σ H vs us Q I r h;obtain ⟨v,vr,e1,h⟩:=h;subst e1;cases r with
  | cons r rr =>
    rw [hs];refine assignInOrder_cons (AZ (h1 pins s σ H _ _ _ I r h) fun _ s1 ⟨σ1,H1,I1,q1⟩=>?_);exact h2 pins s1 σ1 H1 _ _ Q I1 rr q1
abbrev aL (K:W.Frag) (n:Nat) (t:Mv):TG:=fun v σ H Q=>∃ a xs,v=.ref a/\Ds K H a xs/\xs.length=n/\t xs σ H Q
theorem ZM {es:List Expr} {k:Nat} {t:Mv} {n:Nat} (hc:X.calm=true) (h:bc X es t)
    (hn:(assignEach es X.env).length=n:=by rfl) (hst:(assignEach es X.env).findIdx? (·.1)=none:=by rfl):PG X (.Tuple es k pos) (aL X.K n t):=by
  intro pins s σ H v u Q I r hw;obtain ⟨a,xs,e1,hq,hl,hw⟩:=hw;subst e1;cases r;obtain ⟨its,rv,ht,hz⟩:=I.tuple hq;refine assign_Tuple_tuple (I.ok.hd hc) ht (by simp [hn,<- hl,rv.length]) hst fun h' hx=>?_
  have I1:Inv X pins σ H { s with heap:=h' }:=I.kept (t':=s.toks) fun b o e=>hx b o (Nat.ne_of_lt (Heap.lt_size e)) e
  exact h pins _ σ H xs _ Q I1 (by simpa using rv) hw
abbrev dz (to ti:TE) (t:UA):TG:=fun v σ H Q=>to σ H fun o H1=>ti σ H1 fun i H2=>t o i v H2 fun H3=>Q σ H3
theorem ZN {o i:Expr} {to ti:TE} {t:UA} (ho:PE X o to) (hi:PE X i ti) (hs:Wy X t)
    (ha:∀ v,assign (.Subscript o i pos) X.env v=(do
      let ov <- holding [v] (eval o X.env)
      let iv <- holding [v,ov] (eval i X.env)
      standAt pos
      holding [v,ov,iv] (setItem ov iv v)
      release [v,ov,iv] []):=by intro _;rfl):PG X (.Subscript o i pos) (dz to ti t):=by
  intro pins s σ H v u Q I r h;rw [ha];refine wpAny_bind (wpAny_holding (AZ (ho pins s σ H _ I h) fun ov s1 ⟨x,H1,I1,r1,q1⟩=>?_));refine wpAny_bind (wpAny_holding (AZ (hi pins s1 σ H1 _ I1 q1) fun iv s2 ⟨y,H2,I2,r2,q2⟩=>?_));refine wpAny_bind (wpAny_standAt (wpAny_bind (wpAny_holding (AZ (hs pins s2 σ H2 x y v ov iv u _ I2 r1 r2 r q2) fun _ s3 ⟨H3,I3,q3⟩=>?_))));exact wpAny_release ⟨σ,H3,I3,q3⟩
abbrev Lq (te:TE) (g:TG):TS:=fun D σ H=>te σ H fun x H1=>g x σ H1 D.nx
theorem RM {tg e:Expr} {te:TE} {g:TG} (he:PE X e te) (hg:PG X tg g) (hs:swapsWithSole [tg] e pos.line X.env=pure false:=by rfl) (hw:swappedStores [tg] e X.env=pure none:=by rfl)
    (h1:(assignEach [tg] X.env).map (·.2)=[assign tg X.env]:=by rfl):PS X (.Assign [tg] e pos) (Lq te g):=by
  intro pins s σ H D I h;refine wpAny_Assign_stores (AZ (he pins s σ H _ I h) fun v s1 ⟨x,H1,I1,r1,q1⟩=>?_) hs hw;rw [h1];exact AZ (hg pins s1 σ H1 x v _ I1 r1 q1) fun _ s2 q=>q
theorem Yv {i:Nat} {x:Str} {e:Expr} {te:TE} {pos':Pos} (hN:X.N.Nodup) (hi:X.N[i]?=some x) (hx:Loc X.env.scope x) (he:PE X e te) (hs:swapsWith e (some (.Name x pos')) pos.line X.env=pure false:=by rfl) (hf:X.fn x=true\/X.env.scope.names.lookup x=some .local:=by first | exact .inl rfl | exact .inr rfl | assumption) :
    PS X (.Assign [.Name x pos'] e pos) (Lq te (DW i)):=by
  intro pins s σ H D I h;refine wpAny_Assign_Name (AZ (he pins s σ H _ I h) fun v s1 ⟨y,H1,I1,r1,q1⟩=>?_) hs;exact DM I1 hN hi hx r1 (fun s2 I2=>⟨_,H1,I2,q1⟩) hf
abbrev gE (i j:Nat) (ta:TA):TS:=fun D σ H=>ta σ H fun vs H1=>∃ v w,vs=[v,w]/\D.nx ((σ.set i (some v)).set j (some w)) H1
theorem Yx {i j:Nat} {x y:Str} {a b:Expr} {ta:TA} {px py pt:Pos} {kt k2 pt2} (hc:X.calm=true) (hN:X.N.Nodup) (hi:X.N[i]?=some x) (hj:X.N[j]?=some y) (hij:i≠j)
    (hx:X.env.scope.names.lookup x=some .local) (hy:X.env.scope.names.lookup y=some .local) (ha:PA X [a,b] ta)
    (hw:swappedStores [.Tuple [.Name x px,.Name y py] kt pt] (.Tuple [a,b] k2 pt2) X.env=pure (some [x,y]))
    (hs:swapsWithSole [.Tuple [.Name x px,.Name y py] kt pt] (.Tuple [a,b] k2 pt2) pos.line X.env=pure false:=by rfl) :
    PS X (.Assign [.Tuple [.Name x px,.Name y py] kt pt] (.Tuple [a,b] k2 pt2) pos) (gE i j ta):=by
  intro pins s σ H D I h;rw [exec_Assign_arm];refine wpAny_bind (wpAny_standAt ?_);rw [hs];refine wpAny_bind (wpAny_pure ?_);rw [if_neg (by decide)];refine wpAny_bind (Tuple_ (AZ (ha _ pins s σ H _ I h) fun us s1 ⟨vs,H1,I1,r1,q1⟩=>?_));obtain ⟨v,w,e1,q1⟩:=q1;subst e1;obtain ⟨u1,u2,rfl,rv,rw'⟩:∃ u1 u2,us=[u1,u2]/\RelV v u1/\RelV w u2:=by
    cases r1 with
    | cons p q =>
      cases q with
      | cons p' q' =>
        cases q';exact ⟨_,_,rfl,p,p'⟩
  refine wpAny_newObj_type ?_ (by show 2<=sizeLine;decide)
  have I2:Inv X pins σ H1 { s1 with heap:=s1.heap.push { cls:=.type "tuple", data:=.seq [u1,u2].toArray } }:=I1.kept (t':=s1.toks) fun b o e=>Heap.get?_push_of_some _ e
  rw [hw];refine wpAny_bind (wpAny_pure ?_)
  show wpAny (model X.prog X.w) X.A (do rule "assign.swapped-stores"; let items <- unpackItems (.ref s1.heap.objs.size) 2 none;assignInOrder [fun v=>bindName X.env y v,fun v=>bindName X.env x v] items.reverse;pure Flow.next) _ _ _
  refine wpAny_bind (wpAny_rule (wpAny_bind (unpackItems_tuple (items:=#[u1,u2]) (I.ok.hd hc) (IsTup.new s1.heap _) fun h' hx'=>?_)));have I3:=I2.kept (h':=h') (t':=s1.toks) fun b o e=>hx' b o (Nat.ne_of_lt (Heap.lt_size e)) e
  show wpAny _ _ (assignInOrder [fun v=>bindName X.env y v,fun v=>bindName X.env x v] [u2,u1] >>= fun _=>pure Flow.next) _ _ _;refine wpAny_bind (assignInOrder_cons (wpAny_bindName (DM I3 hN hj (.inl hy) rw' (fun s2 I4=>?_) (.inr hy))));refine assignInOrder_cons (wpAny_bindName (DM I4 hN hi (.inl hx) rv (fun s3 I5=>assignInOrder_nil (wpAny_pure ?_)) (.inr hx)));rw [List.set_comm _ _ (Ne.symm hij)] at I5;exact ⟨_,H1,I5,q1⟩
abbrev cD (i:Nat) (te:TE) (ti:fh):TS:=fun D σ H=>∃ x,σ[i]?=some (some x)/\te σ H fun y H1=>ti x y H1 fun z H2=>D.nx (σ.set i (some z)) H2
theorem RL {i:Nat} {x:Str} {e:Expr} {te:TE} {op:Operator} {ti:fh} {pos':Pos} (hN:X.N.Nodup) (hi:X.N[i]?=some x) (hx:Loc X.env.scope x) (he:PE X e te) (ho:gy X op ti) (hf:X.fn x=true\/X.env.scope.names.lookup x=some .local:=by first | exact .inl rfl | exact .inr rfl | assumption) :
    PS X (.AugAssign (.Name x pos') op e pos) (cD i te ti):=by
  intro pins s σ H D I h;obtain ⟨v,e1,h⟩:=h;obtain ⟨m,hn,hl⟩:=I.loc;have vis:fF X.env.scope x:=by rcases hx with k | k;exact .inl k;exact .inr (.inl k)
  obtain ⟨u,r,l⟩:=hl i x v hi e1 vis;refine wpAny_AugAssign_Name ?_;have go:wpAny (model X.prog X.w) X.A (eval e X.env) (fun w s₂=>wpAny (model X.prog X.w) X.A (inplaceOp op u w) (fun r s₃=>wpAny (model X.prog X.w) X.A (storeName X.env x r) (fun _=>SP X pins D .next) X.xe s₃) X.xe s₂) X.xe s:=by
    refine AZ (he pins s σ H _ I h) fun w s1 ⟨y,H1,I1,r1,q1⟩=>?_
    refine AZ (ho pins s1 σ H1 v y u w _ I1 r r1 q1) fun z s2 ⟨zv,H2,I2,r2,q2⟩=>?_
    exact DM I2 hN hi hx r2 (fun s3 I3=>⟨_,H2,I3,q2⟩) hf
  rcases l with ⟨hk,hm⟩ | ⟨hk,c,hc,hcell⟩
  · exact wpAny_loadName_local I.ok.kind hk hn hm go
  · rcases hk with hk | hk
    · exact wpAny_loadName_cell I.ok.kind hk hc hcell go
    · rcases hx with k | k
      · have:X.env.scope.names.lookup x=some .free:=hk;rw [k] at this;cases this
      · have:X.env.scope.names.lookup x=some .free:=hk;rw [k] at this;cases this
def gU (f:Int->Int->Int):fh:=fun x y H Q=>∃ i j,x=.int i/\y=.int j/\Q (.int (f i j)) H
theorem aI:gy X .Add (gU fun i j=>i+j):=by
 intro pins s σ H x y v u Q I r1 r2 h;obtain ⟨i,j,e1,e2,q⟩:=h;subst e1;subst e2;obtain ⟨t,rfl⟩:=r1;obtain ⟨t',rfl⟩:=r2;exact iadd_int ⟨.int _,H,I.tok _,⟨_,rfl⟩,q⟩
theorem aH:gy X .Sub (gU fun i j=>i - j):=by
 intro pins s σ H x y v u Q I r1 r2 h;obtain ⟨i,j,e1,e2,q⟩:=h;subst e1;subst e2;obtain ⟨t,rfl⟩:=r1;obtain ⟨t',rfl⟩:=r2;exact isub_int ⟨.int _,H,I.tok _,⟨_,rfl⟩,q⟩
end
section
variable {X:Cx} {pos:Pos}
def QR (c:TT) (tb:TS):TS:=fun D σ H=>∃ W:Nat->St->Hp->Prop,(∃ m,W m σ H)/\∀ m σ H,W m σ H ->
 c σ H fun b H1=>if b=true then ∃ N:St->Hp->Prop,(∀ σ' H',N σ' H'->∃ m',m' < m/\W m' σ' H')/\tb { D with nx:=N,ct:=N,bk:=D.nx } σ H1 else D.nx σ H1
theorem Kh {c:Expr} {body:List Stmt} {tc:TT} {tb:TS} (hp:PassesOwn (model X.prog X.w) X.A X.env X.xe) (hc:PT X c tc) (hb:DL X body tb):PS X (.While c body [] pos) (QR tc tb):=by
 intro pins s σ H D I h;obtain ⟨W,⟨m0,w0⟩,turn⟩:=h;refine wpAny_While (codeAny_whileLoop (fun n s'=>∃ σ' H',Inv X pins σ' H' s'/\W n σ' H') ?_ m0 ⟨σ,H,I,w0⟩);rintro n s1 ⟨σ1,H1,I1,w1⟩;refine wpAny_passesOwn hp (AZ (hc pins s1 σ1 H1 _ I1 (turn n σ1 H1 w1)) fun b s2 ⟨H2,I2,q2⟩=>?_);cases b with
 | true =>
  obtain ⟨N,hN,q2⟩:=q2;rw [if_pos rfl];refine wpAny_passesOwn hp (AZ (hb pins s2 σ1 H2 _ I2 q2) fun f s3 q3=>?_);cases f with
  | next =>
   obtain ⟨σ3,H3,I3,n3⟩:=q3;obtain ⟨m',hm,w3⟩:=hN σ3 H3 n3;exact ⟨m',hm,σ3,H3,I3,w3⟩
  | cont =>
   obtain ⟨σ3,H3,I3,n3⟩:=q3;obtain ⟨m',hm,w3⟩:=hN σ3 H3 n3;exact ⟨m',hm,σ3,H3,I3,w3⟩
  | brk=>exact q3
  | ret v=>exact q3
 | false =>
  rw [if_neg Bool.false_ne_true];exact wpAny_execs_nil ⟨σ1,H2,I2,q2⟩
end
structure It where
 go:Nat->Hp->Prop
 yld:Nat->Hp->V->Hp->Prop
 stop:Nat->Hp->Prop
def FpOk (X:Cx) (pins:List (Addr×Obj)) (H:Hp) (b:Addr):Prop:=
 H b=none/\b≠X.env.locals/\b∉X.fs/\(b∈X.ex\/X.s₀.heap.objs.size<=b)/\(∀ x c,X.env.cells.lookup x=some c->c≠b)/\∀ p∈X.pn++pins,p.1≠b
theorem Inv.fpOk {X:Cx} {pins:List (Addr×Obj)} {σ:St} {H H':Hp} {s:Shared} {b:Addr} (I:Inv X pins σ H s) (hb:s.heap.objs.size<=b) (hn:H' b=none):FpOk X pins H' b:=by
 refine ⟨hn,Nat.ne_of_gt (Nat.lt_of_lt_of_le I.lt hb),I.nofs hb,.inr (Nat.le_trans I.sz hb),fun x c e z=>?_,fun p hp z=>?_⟩
 ·obtain ⟨v,q⟩:=I.cell x c e;exact absurd (Nat.lt_of_lt_of_le q.lt (by rw [z];exact hb)) (Nat.lt_irrefl _)
 ·exact absurd (Nat.lt_of_lt_of_le (Heap.lt_size (I.pin p hp).1) (by rw [z];exact hb)) (Nat.lt_irrefl _)
structure Turn (P:Program) (w:World) (K:W.Frag) (tg:Expr) (J:It) (fp:List Addr) (it:Addr) (tn:Nat->Heap->Prop):Prop where
 mem:it∈fp
 obj:∀ i h,tn i h->∀ b∈fp,∃ o,h.get? b=some o/\∀ v,o.data≠.cell v
 keep:∀ i h h',tn i h->(∀ b∈fp,∀ o,h.get? b=some o->h'.get? b=some o)->tn i h'
 item:∀ (X:Cx),X.prog=P->X.w=w->X.K=K->X.calm=true->∀ (i:Nat) (pins:List (Addr×Obj)) (s:Shared) (σ:St) (H:Hp) (E:Value->Shared->Prop),Inv X pins σ H s->(∀ b∈fp,FpOk X pins H b)->tn i s.heap->J.go i H ->
  wpAny (model P w) X.A (pyNext (.ref it)) (fun r s1=>∃ u,r=some u /\
   wpAny (model P w) X.A (letOwnedTupleGo tg (.ref it) u) (fun _ s2=>∃ x H',Inv X pins σ H' s2/\RelV x u/\J.yld i H x H'/\tn (i+1) s2.heap/\∀ b∈fp,H' b=none) E s1) E s
 done:∀ (X:Cx),X.prog=P->X.w=w->X.K=K->X.calm=true->∀ (i:Nat) (pins:List (Addr×Obj)) (s:Shared) (σ:St) (H:Hp) (E:Value->Shared->Prop),Inv X pins σ H s->(∀ b∈fp,FpOk X pins H b)->tn i s.heap->J.stop i H ->
  wpAny (model P w) X.A (pyNext (.ref it)) (fun r s1=>r=none/\Inv X pins σ H s1) E s
 self:∀ (A:Around) (i:Nat) (s:Shared) (Q:Value->Shared->Prop) (E:Value->Shared->Prop),tn i s.heap->Q (.ref it) s->wpAny (model P w) A (pyIter (.ref it)) Q E s
abbrev TI:=St->Hp->(It->Hp->Prop)->Prop
def iS (X:Cx) (pins:List (Addr×Obj)) (σ:St) (tg:Expr) (R:It->Hp->Prop) (itv:Value) (s2:Shared):Prop:=
 ∃ (it:Addr) (fp:List Addr) (tn:Nat->Heap->Prop) (J:It) (H':Hp),itv=.ref it/\Inv X pins σ H' s2/\Turn X.prog X.w X.K tg J fp it tn/\tn 0 s2.heap/\(∀ b∈fp,FpOk X pins H' b)/\R J H'
def PI (X:Cx) (tg iter:Expr) (wi:TI):Prop:=
 ∀ (pins:List (Addr×Obj)) (s:Shared) (σ:St) (H:Hp) (R:It->Hp->Prop),Inv X pins σ H s->wi σ H R ->
  wpAny (model X.prog X.w) X.A (eval iter X.env) (fun v s1=>wpAny (model X.prog X.w) X.A (pyIter v) (iS X pins σ tg R) X.xe s1) X.xe s
theorem II {M:Model} {A:Around} {E:Value->Shared->Prop} {s:Shared} {tg:Expr} {it:Addr} {u:Value} {o:Obj} {n:String} {vs:Array Value} {Q:Unit->Shared->Prop} (ho:s.heap.get? it=some o) (hc:o.cls=.type n) (hd:o.data=.fields vs)
    (hn:["enumerate", "zip", "dict_itemiterator", "dict_reverseitemiterator", "odict_iterator", "itertools.zip_longest", "itertools.pairwise"].contains n=false) (hQ:Q () s):wpAny M A (letOwnedTupleGo tg (.ref it) u) Q E s:=by
  unfold letOwnedTupleGo;cases tg<;>first
    | exact wpAny_pure hQ
    | (cases u<;>first
        | exact wpAny_pure hQ
        | (refine wpAny_bind (wpAny_load ho ?_)
           rw [hc,hd]
           show wpAny M A (if (["enumerate", "zip", "dict_itemiterator", "dict_reverseitemiterator", "odict_iterator", "itertools.zip_longest", "itertools.pairwise"].contains n && vs[0]? == some (rawInt _))=true then _ else _) Q E s
           rw [if_neg (by intro h;rw [hn,Bool.false_and] at h;cases h)];exact wpAny_pure hQ))
noncomputable def fu (K:W.Frag) (a:Addr):It:=
 ⟨fun i H=>∃ xs x,Bq K H a xs/\xs[i]?=some x,fun i H x H'=>H'=H/\∀ xs,Bq K H a xs->xs[i]?=some x,fun i H=>∃ xs,Bq K H a xs/\xs.length<=i⟩
noncomputable def hG (K:W.Frag) (a:Addr):It:=
 ⟨fun i H=>∃ xs x,Ds K H a xs/\xs[i]?=some x,fun i H x H'=>H'=H/\∀ xs,Ds K H a xs->xs[i]?=some x,fun i H=>∃ xs,Ds K H a xs/\xs.length<=i⟩
noncomputable def bV (lo:Int) (n:Nat):It:=⟨fun i _=>i < n,fun i H x H'=>H'=H/\x=.int (lo+i),fun i _=>n<=i⟩
theorem OK {P:Program} {w:World} {K:W.Frag} {tg:Expr} (a it:Addr):Turn P w K tg (fu K a) [it] it (fun i h=>h.IsListIter it a i) where
 mem:=by simp
 obj:=fun i h st b hb=>by
  have e:b=it:=by simpa using hb
  subst e;obtain ⟨o,e,c,d⟩:=st;exact ⟨o,e,fun v z=>by rw [d] at z;cases z⟩
 keep:=fun i h h' st k=>st.at fun o e=>k it (by simp) o e
 item:=by
  intro X hP hw hK hc i pins s σ H E I hf st hg;subst hP hw hK;obtain ⟨xs,x,hq,hx⟩:=hg;obtain ⟨its,rv,p,hz⟩:=I.list hq;obtain ⟨u,hu,ru⟩:=rv.get hx;obtain ⟨f0,f1,f2,f3,f4,f5⟩:=hf it (by simp);refine wpAny_pyNext_list_item st p.isList (x:=u) (by simpa using hu) fun h' st' sb=>?_
  have I1:Inv X pins σ H { s with heap:=h' }:=I.turned (t':=s.toks) (fun b o hb e=>(sb.2 b hb).trans e) f0 f1 f3 f4 f5;obtain ⟨o,e,c,d⟩:=id st';exact ⟨u,rfl,II (s:={ s with heap:=h' }) e c d (by decide) ⟨x,H,I1,ru,⟨rfl,fun ys hy=>by rw [I.list_inj hy hq];exact hx⟩,st',fun b hb=>(hf b hb).1⟩⟩
 done:=by
  intro X hP hw hK hc i pins s σ H E I hf st hg;subst hP hw hK;obtain ⟨xs,hq,hx⟩:=hg;obtain ⟨its,rv,p,hz⟩:=I.list hq;obtain ⟨f0,f1,f2,f3,f4,f5⟩:=hf it (by simp);have hl:=rv.length;exact wpAny_pyNext_list_end (I.ok.hd hc) st p.isList (by simp;omega) fun h' eb=>⟨rfl,I.turned (t':=s.toks) (fun b o hb e=>eb b o hb e) f0 f1 f3 f4 f5⟩
 self:=fun _ _ _ _ _ st h=>wpAny_pyIter_listiter st h
theorem Ll {P:Program} {w:World} {K:W.Frag} {tg:Expr} (a it:Addr):Turn P w K tg (hG K a) [it] it (fun i h=>h.IsTupleIter it a i) where
 mem:=by simp
 obj:=fun i h st b hb=>by
  have e:b=it:=by simpa using hb
  subst e;obtain ⟨o,e,c,d⟩:=st;exact ⟨o,e,fun v z=>by rw [d] at z;cases z⟩
 keep:=fun i h h' st k=>st.at fun o e=>k it (by simp) o e
 item:=by
  intro X hP hw hK hc i pins s σ H E I hf st hg;subst hP hw hK;obtain ⟨xs,x,hq,hx⟩:=hg;obtain ⟨its,rv,p,hz⟩:=I.tuple hq;obtain ⟨u,hu,ru⟩:=rv.get hx;obtain ⟨f0,f1,f2,f3,f4,f5⟩:=hf it (by simp);refine wpAny_pyNext_tuple_item st (show s.heap.IsTuple a its.toArray from p) (x:=u) (by simpa using hu) fun h' st' sb=>?_
  have I1:Inv X pins σ H { s with heap:=h' }:=I.turned (t':=s.toks) (fun b o hb e=>(sb.2 b hb).trans e) f0 f1 f3 f4 f5;obtain ⟨o,e,c,d⟩:=id st';exact ⟨u,rfl,II (s:={ s with heap:=h' }) e c d (by decide) ⟨x,H,I1,ru,⟨rfl,fun ys hy=>by rw [I.tuple_inj hy hq];exact hx⟩,st',fun b hb=>(hf b hb).1⟩⟩
 done:=by
  intro X hP hw hK hc i pins s σ H E I hf st hg;subst hP hw hK;obtain ⟨xs,hq,hx⟩:=hg;obtain ⟨its,rv,p,hz⟩:=I.tuple hq;obtain ⟨f0,f1,f2,f3,f4,f5⟩:=hf it (by simp);have hl:=rv.length;exact wpAny_pyNext_tuple_end (I.ok.hd hc) st (show s.heap.IsTuple a its.toArray from p) (by simp;omega) fun h' eb=>⟨rfl,I.turned (t':=s.toks) (fun b o hb e=>eb b o hb e) f0 f1 f3 f4 f5⟩
 self:=fun _ _ _ _ _ st h=>wpAny_pyIter_tupleiter st h
theorem Lm {P:Program} {w:World} {K:W.Frag} {tg:Expr} (it:Addr) (lo:Int) (n:Nat):Turn P w K tg (bV lo n) [it] it (fun i h=>IsRangeIter h it (lo+(i:Nat) * 1) ((n:Int) - (i:Nat)) 1) where
 mem:=by simp
 obj:=fun i h st b hb=>by
  have e:b=it:=by simpa using hb
  subst e;exact ⟨_,st,fun v z=>by
   have z':Data.fields _=Data.cell v:=z;cases z'⟩
 keep:=fun i h h' st k=>k it (by simp) _ st
 item:=by
  intro X hP hw hK hc i pins s σ H E I hf st hg;subst hP hw hK;obtain ⟨f0,f1,f2,f3,f4,f5⟩:=hf it (by simp);have W:=Walks.range (prog:=X.prog) (w:=X.w) (I.ok.hd hc) it lo 1 n;refine W.item i s _ _ hg st fun v h' tk hv st' kk=>?_
  obtain ⟨t,rfl⟩:=hv;have I1:Inv X pins σ H { s with heap:=h',toks:=tk }:=I.turned (fun b o hb e=>kk b o (by simpa using hb) e) f0 f1 f3 f4 f5
  refine ⟨_,rfl,II (s:={ s with heap:=h',toks:=tk }) (n := "range_iterator") st' rfl rfl (by decide) ⟨.int (lo+i),H,I1,⟨t,?_⟩,⟨rfl,rfl⟩,st',fun b hb=>(hf b hb).1⟩⟩
  rw [Int.mul_one]
 done:=by
  intro X hP hw hK hc i pins s σ H E I hf st hg;subst hP hw hK;obtain ⟨f0,f1,f2,f3,f4,f5⟩:=hf it (by simp);exact wpAny_pyNext_range_end (I.ok.hd hc) st (by have:n<=i:=hg;omega) fun h' eb=>⟨rfl,I.turned (t':=s.toks) (fun b o hb e=>eb b o hb e) f0 f1 f3 f4 f5⟩
 self:=fun _ _ _ _ _ st h=>wpAny_pyIter_rangeiter st h
section
variable {X:Cx} {tg:Expr}
theorem Ka {pins:List (Addr×Obj)} {σ:St} {H:Hp} {s:Shared} {R:It->Hp->Prop} {E:Value->Shared->Prop} {lo hi:Int} {t u v:Tok} {tk:Nat} (I:Inv X pins σ H s) (h1:-(2 ^ 62)<=lo) (h2:lo < 2 ^ 62) (h3:-(2 ^ 62)<=hi) (h4:hi < 2 ^ 62)
    (q:R (bV lo (hi - lo).toNat) H):wpAny (model X.prog X.w) X.A (pyIter (.ref s.heap.objs.size)) (iS X pins σ tg R) E { s with heap:=s.heap.push { cls:=.type "range", data:=.fields #[.int lo t,.int hi u,.int 1 v] },toks:=tk }:=by
  refine wpAny_pyIter_range (IsRange.new ..) (small_one h1 h2 h3 h4) ?_
  have I1:Inv X pins σ H { s with heap:=s.heap.push { cls:=.type "range", data:=.fields #[.int lo t,.int hi u,.int 1 v] },toks:=tk }:=I.kept fun b o e=>Heap.get?_push_of_some _ e
  refine ⟨(s.heap.push { cls:=.type "range", data:=.fields #[.int lo t,.int hi u,.int 1 v] }).objs.size,[(s.heap.push { cls:=.type "range", data:=.fields #[.int lo t,.int hi u,.int 1 v] }).objs.size],_,_,H,rfl,
    I1.kept (t':=tk) fun b o e=>Heap.get?_push_of_some _ e,Lm _ lo (hi - lo).toNat,?_,fun b hb=>?_,q⟩
  · have e1:lo+((0:Nat):Int) * 1=lo:=by simp
    have e2:(((hi - lo).toNat:Nat):Int) - ((0:Nat):Int)=Builtin.Range.rangeSize lo hi 1:=by rw [rangeSize_one];split<;>omega
    show IsRangeIter _ _ (lo+((0:Nat):Int) * 1) ((((hi - lo).toNat:Nat):Int) - ((0:Nat):Int)) 1;rw [e1,e2];exact Heap.get?_push_size _ rfl
  · have e:b=(s.heap.push { cls:=.type "range", data:=.fields #[.int lo t,.int hi u,.int 1 v] }).objs.size:=by simpa using hb
    subst e;exact I1.fpOk (Nat.le_refl _) (I1.hok.fresh (Nat.le_refl _))
abbrev dv (ta:TA):TI:=fun σ H R=>ta σ H fun vs H1=>∃ j:Int,vs=[.int j]/\-(2 ^ 62)<=j/\j < 2 ^ 62/\R (bV 0 j.toNat) H1
abbrev du (ta:TA):TI:=fun σ H R=>ta σ H fun vs H1=>∃ i j:Int,vs=[.int i,.int j]/\(-(2 ^ 62)<=i/\i < 2 ^ 62/\-(2 ^ 62)<=j/\j < 2 ^ 62)/\R (bV i (j - i).toNat) H1
theorem Of {a:Expr} {ta:TA} {p pos:Pos} (hg:Gl X "range") (hm:X.mg "range" = none) (ha:PA X [a] ta) (hs:starEach [a] X.env=[(false,eval a X.env)]:=by rfl):PI X tg (.Call (.Name "range" p) [a] [] pos) (dv ta):=by
 intro pins s σ H R I h;refine Call_ (BR I hg hm boot_range (PyProof.Rows.callWith_type1 (AZ (ha pos pins s σ H _ I h) fun us s1 ⟨vs,H1,I1,r1,q1⟩=>?_) hs rfl));obtain ⟨j,e,q1,q2,q⟩:=q1;subst e;cases r1 with
 | cons r rr =>
  cases rr;obtain ⟨t,rfl⟩:=r;exact call_range_1 (Ka I1 (by omega) (by omega) q1 q2 (by simpa using q))
theorem Oe {a b:Expr} {ta:TA} {p pos:Pos} (hg:Gl X "range") (hm:X.mg "range" = none) (ha:PA X [a,b] ta) (hs:starEach [a,b] X.env=[(false,eval a X.env),(false,eval b X.env)]:=by rfl) (hs2:starEach [b] X.env=[(false,eval b X.env)]:=by rfl) :
    PI X tg (.Call (.Name "range" p) [a,b] [] pos) (du ta):=by
  intro pins s σ H R I h;refine Call_ (BR I hg hm boot_range (PyProof.Rows.callWith_type1 (AZ (ha pos pins s σ H _ I h) fun us s1 ⟨vs,H1,I1,r1,q1⟩=>?_) (by rw [hs,hs2]) (by rw [hs2];rfl)));obtain ⟨i,j,e,⟨q1,q2,q3,q4⟩,q⟩:=q1;subst e;cases r1 with
  | cons r rr =>
    cases rr with
    | cons r' rr =>
      cases rr;obtain ⟨t,rfl⟩:=r;obtain ⟨t',rfl⟩:=r';exact call_range_2 (Ka I1 q1 q2 q3 q4 q)
abbrev gH (wi:TI) (g:TG) (tb:TS):TS:=fun D σ H=>wi σ H fun J H1=>∃ W:Nat->Nat->St->Hp->Prop,(∃ m,W 0 m σ H1)/\∀ i m σ H,W i m σ H ->
 (J.stop i H/\D.nx σ H)\/(J.go i H/\∃ N:St->Hp->Prop,(∀ σ' H',N σ' H'->∃ m',m' < m/\W (i+1) m' σ' H')/\∀ x H',J.yld i H x H'->g x σ H' fun σ2 H2=>tb { D with nx:=N,ct:=N,bk:=D.nx } σ2 H2)
noncomputable def JG (fp:List Addr) (h:Heap):List (Addr×Obj):=fp.filterMap fun b=>(h.get? b).map fun o=>(b,o)
theorem DC {fp:List Addr} {h:Heap} {b:Addr} {o:Obj} (hb:b∈fp) (e:h.get? b=some o):(b,o)∈JG fp h:=List.mem_filterMap.mpr ⟨b,hb,by rw [e];rfl⟩
theorem Oj {fp:List Addr} {h:Heap} {p:Addr×Obj} (hp:p∈JG fp h):p.1∈fp/\h.get? p.1=some p.2:=by
 obtain ⟨b,hb,e⟩:=List.mem_filterMap.mp hp;cases q:h.get? b with
 | none=>rw [q] at e;cases e
 | some o =>
  rw [q] at e;have e':(b,o)=p:=Option.some.inj e;subst e';exact ⟨hb,q⟩
theorem Inv.pinned {pins:List (Addr×Obj)} {σ:St} {H:Hp} {s:Shared} {fp:List Addr} (I:Inv X pins σ H s) (hf:∀ b∈fp,FpOk X pins H b) (ho:∀ b∈fp,∃ o,s.heap.get? b=some o/\∀ v,o.data≠.cell v):Inv X (pins++JG fp s.heap) σ H s:=
 I.pins_of fun p hp=>(List.mem_append.mp hp).elim (fun z=>I.pin p (List.mem_append_right _ z)) fun z=>by
  obtain ⟨hb,e⟩:=Oj z;obtain ⟨f0,f1,f2,_⟩:=hf p.1 hb;obtain ⟨o,e',d⟩:=ho p.1 hb;rw [e] at e';cases e';exact ⟨e,f0,f1,f2,d⟩
theorem Inv.unpinned {pins pl:List (Addr×Obj)} {σ:St} {H:Hp} {s:Shared} (I:Inv X (pins++pl) σ H s):Inv X pins σ H s:=I.pins_of fun p hp=>I.pin p (List.mem_append_right _ (List.mem_append_left _ hp))
theorem RJ {iter:Expr} {body:List Stmt} {wi:TI} {g:TG} {tb:TS} {pos:Pos} (hp:PassesOwn (model X.prog X.w) X.A X.env X.xe) (hc:X.calm=true) (hi:PI X tg iter wi) (hg:PG X tg g) (hb:DL X body tb)
    (hs:∀ x,foldedSetIterable iter X.env x=pure x:=by intro _;rfl):PS X (.For tg iter body [] pos) (gH wi g tb):=by
  intro pins s σ H D I h;refine wpAny_For (AZ (hi pins s σ H _ I h) fun v s1 h1=>AZ h1 fun itv s2 h2=>?_) hs;obtain ⟨it,fp,tn,J,H2,e,I2,T,st2,f2,W,⟨m0,w0⟩,turn⟩:=h2;subst e
  -- what stays true of the iterator's objects through the loop
  have stat:∀ {H':Hp},(∀ b∈fp,H' b=none)->∀ b∈fp,FpOk X pins H' b:=fun hn b hb=>⟨hn b hb,(f2 b hb).2⟩
  refine codeAny_forLoop_any (fun n s'=>∃ i σ' H',Inv X pins σ' H' s'/\tn i s'.heap/\(∀ b∈fp,H' b=none)/\W i n σ' H') ?_ m0 ⟨0,σ,H2,I2,st2,fun b hb=>(f2 b hb).1,w0⟩;rintro n s3 ⟨i,σ3,H3,I3,st3,fr3,w3⟩;rcases turn i n σ3 H3 w3 with ⟨stop,qn⟩ | ⟨go,N,hN,step⟩
  · refine wpAny_passesOwn hp (AZ (T.done X rfl rfl rfl hc i pins s3 σ3 H3 X.xe I3 (stat fr3) st3 stop) fun r s4 ⟨hr,I4⟩=>?_);subst hr;exact wpAny_execs_nil ⟨σ3,H3,I4,qn⟩
  · refine wpAny_passesOwn hp (AZ (T.item X rfl rfl rfl hc i pins s3 σ3 H3 X.xe I3 (stat fr3) st3 go) fun r s4 ⟨u,hr,h4⟩=>?_);subst hr;refine wpAny_passesOwn hp (AZ h4 fun _ s5 ⟨x,H5,I5,r5,y5,st5,fr5⟩=>?_);have I5':=I5.pinned (stat fr5) (T.obj _ _ st5);refine wpAny_passesOwn hp (AZ (hg _ s5 σ3 H5 x u _ I5' r5 (step x H5 y5)) fun _ s6 ⟨σ6,H6,I6,q6⟩=>?_);refine wpAny_passesOwn hp (AZ (hb _ s6 σ6 H6 _ I6 q6) fun f s7 q7=>?_);have again:∀ {σ7:St} {H7:Hp},Inv X (pins++JG fp s5.heap) σ7 H7 s7->N σ7 H7->∃ m,m < n/\∃ i σ' H',Inv X pins σ' H' s7/\tn i s7.heap/\(∀ b∈fp,H' b=none)/\W i m σ' H':=fun {σ7 H7} I7 n7=>by
      obtain ⟨m',hm,w7⟩:=hN σ7 H7 n7;refine ⟨m',hm,i+1,σ7,H7,I7.unpinned,T.keep _ _ _ st5 fun b hb o e=>(I7.pin (b,o) (List.mem_append_right _ (List.mem_append_right _ (DC hb e)))).1,fun b hb=>?_,w7⟩;obtain ⟨o,e,d⟩:=T.obj _ _ st5 b hb;exact (I7.pin (b,o) (List.mem_append_right _ (List.mem_append_right _ (DC hb e)))).2.1
    cases f with
    | next=>obtain ⟨σ7,H7,I7,n7⟩:=q7;exact again I7 n7
    | cont=>obtain ⟨σ7,H7,I7,n7⟩:=q7;exact again I7 n7
    | brk=>obtain ⟨σ7,H7,I7,q7⟩:=q7;exact ⟨σ7,H7,I7.unpinned,q7⟩
    | ret v=>obtain ⟨x7,σ7,H7,I7,r7,q7⟩:=q7;exact ⟨x7,σ7,H7,I7.unpinned,r7,q7⟩
end
abbrev R2:=V->V->Hp->VK->Prop
def CN (X:Cx) (f:Value->Value->Sem Value) (r:R2):Prop:=
 ∀ (pins:List (Addr×Obj)) (s:Shared) (σ:St) (H:Hp) (x y:V) (v u:Value) (Q:VK),Inv X pins σ H s->RelV x v->RelV y u->r x y H Q ->
  wpAny (model X.prog X.w) X.A (f v u) (EP X pins σ Q) X.xe s
def gv (X:Cx) (f:Value->Sem Value) (r:V->Hp->VK->Prop):Prop:=
 ∀ (pins:List (Addr×Obj)) (s:Shared) (σ:St) (H:Hp) (x:V) (v:Value) (Q:VK),Inv X pins σ H s->RelV x v->r x H Q ->
  wpAny (model X.prog X.w) X.A (f v) (EP X pins σ Q) X.xe s
def BC (X:Cx) (f:Value) (r:List V->Hp->VK->Prop):Prop:=
 ∀ (pins:List (Addr×Obj)) (s:Shared) (σ:St) (H:Hp) (xs:List V) (us:List Value) (Q:VK),Inv X pins σ H s->AD xs us->r xs H Q ->
  wpAny (model X.prog X.w) X.A (call f us) (EP X pins σ Q) X.xe s
def gw (X:Cx) (r:V->Hp->(Bool->Hp->Prop)->Prop):Prop:=
 ∀ (pins:List (Addr×Obj)) (s:Shared) (σ:St) (H:Hp) (x:V) (v:Value) (Q:Bool->Hp->Prop),Inv X pins σ H s->RelV x v->r x H Q ->
  wpAny (model X.prog X.w) X.A (truthy v) (TP X pins σ Q) X.xe s
abbrev fN (r:R2) (ta tb:TE):TE:=fun σ H Q=>ta σ H fun x H1=>tb σ H1 fun y H2=>r x y H2 Q
abbrev iY (r:V->Hp->VK->Prop) (ta:TE):TE:=fun σ H Q=>ta σ H fun x H1=>r x H1 Q
def rI (C:Int->Int->Prop) (g:Int->Int->V):R2:=fun x y H Q=>∃ i j,x=.int i/\y=.int j/\C i j/\Q (g i j) H
def Pt (g:Int->Int->V):R2:=fun x y H Q=>∃ i j,x=.int i/\y=.int j/\Q (g i j) H
def rU (g:Int->V):V->Hp->VK->Prop:=fun x H Q=>∃ i,x=.int i/\Q (g i) H
section
variable {X:Cx} {a b c:Expr} {ta tb tc:TE} {pos:Pos}
theorem bE (ha:PE X a ta) (hb:PE X b tb) {pins:List (Addr×Obj)} {s:Shared} {σ:St} {H:Hp} {R:V->V->Hp->Prop} (I:Inv X pins σ H s)
    (h:ta σ H fun x H1=>tb σ H1 fun y H2=>R x y H2) {Q:Value->Shared->Prop} {f:Value->Value->Sem Value}
    (hf:∀ v u s2 x y H2,Inv X pins σ H2 s2->RelV x v->RelV y u->R x y H2->wpAny (model X.prog X.w) X.A (f v u) Q X.xe s2) :
    wpAny (model X.prog X.w) X.A (eval a X.env) (fun v s₁=>wpAny (model X.prog X.w) X.A (eval b X.env) (fun u s₂=>wpAny (model X.prog X.w) X.A (f v u) Q X.xe s₂) X.xe s₁) X.xe s:=by
  refine AZ (ha pins s σ H _ I h) fun v s1 ⟨x,H1,I1,r1,q1⟩=>?_
  refine AZ (hb pins s1 σ H1 _ I1 q1) fun u s2 ⟨y,H2,I2,r2,q2⟩=>?_
  exact hf v u s2 x y H2 I2 r1 r2 q2
theorem dI {op:Operator} {r:R2} (ho:CN X (binaryOp op) r) (ha:PE X a ta) (hb:PE X b tb):PE X (.BinOp a op b pos) (fN r ta tb):=by
 intro pins s σ H Q I h;exact wpAny_BinOp (bE ha hb I h fun v u s2 x y H2 I2 rx ry q=>ho pins s2 σ H2 x y v u Q I2 rx ry q)
theorem dG {op:UnaryOp} {r:V->Hp->VK->Prop} (ho:gv X (unaryOp op) r) (ha:PE X a ta):PE X (.UnaryOp op a pos) (iY r ta):=by
 intro pins s σ H Q I h;exact UnaryOp_ (AZ (ha pins s σ H _ I h) fun v s1 ⟨x,H1,I1,r1,q1⟩=>ho pins s1 σ H1 x v Q I1 r1 q1)
theorem fR {f:Value->Value->Sem Value} {C:Int->Int->Prop} {g:Int->Int->Int}
    (rule:∀ (i j:Int) (t u:Tok) (s:Shared) (Q:Value->Shared->Prop) (E:Value->Shared->Prop),C i j->Q (.int (g i j) s.toks) { s with toks:=s.toks+1 }->wpAny (model X.prog X.w) X.A (f (.int i t) (.int j u)) Q E s) :
    CN X f (rI C fun i j=>.int (g i j)):=by
  intro pins s σ H x y v u Q I rx ry h;obtain ⟨i,j,rfl,rfl,hc,q⟩:=h;obtain ⟨t,rfl⟩:=rx;obtain ⟨t',rfl⟩:=ry;exact rule i j t t' s _ _ hc ⟨.int (g i j),H,I.tok _,⟨_,rfl⟩,q⟩
theorem dU {f:Value->Value->Sem Value} {g:Int->Int->Int}
    (rule:∀ (i j:Int) (t u:Tok) (s:Shared) (Q:Value->Shared->Prop) (E:Value->Shared->Prop),Q (.int (g i j) s.toks) { s with toks:=s.toks+1 }->wpAny (model X.prog X.w) X.A (f (.int i t) (.int j u)) Q E s) :
    CN X f (Pt fun i j=>.int (g i j)):=by
  intro pins s σ H x y v u Q I rx ry h;obtain ⟨i,j,rfl,rfl,q⟩:=h;obtain ⟨t,rfl⟩:=rx;obtain ⟨t',rfl⟩:=ry;exact rule i j t t' s _ _ ⟨.int (g i j),H,I.tok _,⟨_,rfl⟩,q⟩
theorem Vb {f:Value->Value->Sem Value} {g:Int->Int->Bool}
    (rule:∀ (i j:Int) (t u:Tok) (s:Shared) (Q:Value->Shared->Prop) (E:Value->Shared->Prop),Q (.bool (g i j)) s->wpAny (model X.prog X.w) X.A (f (.int i t) (.int j u)) Q E s) :
    CN X f (Pt fun i j=>.bl (g i j)):=by
  intro pins s σ H x y v u Q I rx ry h;obtain ⟨i,j,rfl,rfl,q⟩:=h;obtain ⟨t,rfl⟩:=rx;obtain ⟨t',rfl⟩:=ry;exact rule i j t t' s _ _ ⟨.bl (g i j),H,I,rfl,q⟩
def hW (i j:Int):Prop:=0 < j/\j < 1073741824
def hV (i j:Int):Prop:=0<=j/\j<=1000000/\i.natAbs < 2 ^ 64
def XD (i j:Int):Prop:=(-(2 ^ 64) < i/\i < 2 ^ 64)\/(-(2 ^ 64) < j/\j < 2 ^ 64)
theorem XD.ok {i j:Int} (h:XD i j):IntMulOk i j:=by
 rcases h with ⟨h1,h2⟩ | ⟨h1,h2⟩
 ·exact .of_left (intBits_le_64 h1 h2)
 ·exact .of_right (intBits_le_64 h1 h2)
theorem Zl:CN X (binaryOp .Add) (Pt fun i j=>.int (i+j)):=dU fun _ _ _ _ _ _ _ q=>add_int q
theorem Zb:CN X (binaryOp .Sub) (Pt fun i j=>.int (i - j)):=dU fun _ _ _ _ _ _ _ q=>sub_int q
theorem Zf:CN X (binaryOp .Mult) (rI XD fun i j=>.int (i * j)):=fR fun _ _ _ _ _ _ _ hc q=>mul_int q hc.ok
theorem VW:CN X (binaryOp .FloorDiv) (rI hW fun i j=>.int (i / j)):=fR fun i j _ _ _ _ _ hc q=>by
 have h1:(0:Int) < j:=hc.1;have h2:j < 1073741824:=hc.2;exact floordiv_int (by omega) (by rw [Int.fdiv_eq_ediv_of_nonneg i (by omega)];exact q) (.inl (PyProof.noPylong_small (by omega)))
theorem Zg:CN X (binaryOp .Mod) (rI (fun _ j=>0 < j) fun i j=>.int (i % j)):=fR fun i j _ _ _ _ _ hc q=>by
 have h1:(0:Int) < j:=hc;exact mod_int' (by omega) (by rw [Int.fmod_eq_emod_of_nonneg i (by omega)];exact q)
theorem Ze:CN X (binaryOp .Pow) (rI hV fun i j=>.int (i ^ j.toNat)):=fR fun _ _ _ _ _ _ _ hc q=>pow_int_small hc.1 hc.2.1 hc.2.2 q
theorem iT {f:Value->Sem Value} {g:Int->Int}
    (rule:∀ (i:Int) (t:Tok) (s:Shared) (Q:Value->Shared->Prop) (E:Value->Shared->Prop),Q (.int (g i) s.toks) { s with toks:=s.toks+1 }->wpAny (model X.prog X.w) X.A (f (.int i t)) Q E s) :
    gv X f (rU fun i=>.int (g i)):=by
  intro pins s σ H x v Q I rx h;obtain ⟨i,rfl,q⟩:=h;obtain ⟨t,rfl⟩:=rx;exact rule i t s _ _ ⟨.int (g i),H,I.tok _,⟨_,rfl⟩,q⟩
theorem YL:gv X (unaryOp .USub) (rU fun i=>.int (-i)):=iT fun _ _ _ _ _ q=>neg_int q
end
section
variable {X:Cx} {a b c:Expr} {ta tb tc:TE} {pos:Pos}
theorem MX {pins:List (Addr×Obj)} {σ:St} {H:Hp} {s:Shared} {Q:VK} {k k':Bool} (I:Inv X pins σ H s) (q:Q (.bl k) H) (e:k=k'):EP X pins σ Q (.bool k') s:=by
 subst e;exact ⟨.bl k,H,I,rfl,q⟩
theorem dP:CN X (compareOp .Lt) (Pt fun i j=>.bl (decide (i < j))):=Vb fun _ _ _ _ _ _ _ q=>lt_int q
theorem dQ:CN X (compareOp .LtE) (Pt fun i j=>.bl (decide (i<=j))):=Vb fun _ _ _ _ _ _ _ q=>le_int q
theorem dR:CN X (compareOp .Gt) (Pt fun i j=>.bl (decide (j < i))):=Vb fun _ _ _ _ _ _ _ q=>gt_int q
theorem dS:CN X (compareOp .GtE) (Pt fun i j=>.bl (decide (j<=i))):=Vb fun _ _ _ _ _ _ _ q=>ge_int q
theorem Oi:CN X (compareOp .In) (fun x y H Q=>∃ i j,x=.str i/\y=.str j/\Q (.bl (!(Builtin.Str.occurrences j i 0 j.length 1).isEmpty)) H):=by
 intro pins s σ H x y v u Q I rx ry h;obtain ⟨i,j,rfl,rfl,q⟩:=h;obtain ⟨t,rfl⟩:=rx;obtain ⟨t',rfl⟩:=ry;exact in_str (MX I q rfl)
theorem Zi:CN X (compareOp .Is) (fun x y H Q=>y=.non/\Q (.bl (decide (x=.non))) H):=by
 intro pins s σ H x y v u Q I rx ry h;obtain ⟨rfl,q⟩:=h;cases ry;refine is_none_gen (MX I q ?_);cases x<;>first
  | (cases rx;rfl)
  | (obtain ⟨t,rfl⟩:=rx;rfl)
theorem VV:CN X (compareOp .IsNot) (fun x y H Q=>y=.non/\Q (.bl (!decide (x=.non))) H):=by
 intro pins s σ H x y v u Q I rx ry h;obtain ⟨rfl,q⟩:=h;cases ry;refine isnot_none_gen (MX I q ?_);cases x<;>first
  | (cases rx;rfl)
  | (obtain ⟨t,rfl⟩:=rx;rfl)
theorem CN.or {f:Value->Value->Sem Value} {r r':R2} (h:CN X f r) (h':CN X f r'):CN X f (fun x y H Q=>r x y H Q\/r' x y H Q):=by
 intro pins s σ H x y v u Q I rx ry q;rcases q with q | q
 ·exact h pins s σ H x y v u Q I rx ry q
 ·exact h' pins s σ H x y v u Q I rx ry q
theorem VS {op:CmpOp} {r:R2} (ho:CN X (compareOp op) r) (ha:PE X a ta) (hb:PE X b tb) (hm:behindInMarks op b=false):PE X (.Compare a [op] [b] pos) (fN r ta tb):=by
 intro pins s σ H Q I h;exact wpAny_Compare1 (bE ha hb I h fun v u s2 x y H2 I2 rx ry q=>ho pins s2 σ H2 x y v u Q I2 rx ry q) hm
abbrev XJ (t:TE):TT:=fun σ H Q=>t σ H fun x H'=>∃ k,x=.bl k/\Q k H'
theorem Us {op:CmpOp} {r:R2} (ho:CN X (compareOp op) r) (ha:PE X a ta) (hb:PE X b tb) (hm:behindInMarks op b=false):PT X (.Compare a [op] [b] pos) (XJ (fN r ta tb)):=by
 intro pins s σ H Q I h;refine wpAny_isTrue_Compare1 (AZ (ha pins s σ H _ I h) fun v s1 ⟨x,H1,I1,r1,q1⟩=>AZ (hb pins s1 σ H1 _ I1 q1) fun u s2 ⟨y,H2,I2,r2,q2⟩ =>
  AZ (ho pins s2 σ H2 x y v u _ I2 r1 r2 q2) fun c s3 ⟨z,H3,I3,r3,k,e,q3⟩=>?_) hm
 subst e;cases r3;exact wpAny_truthy_bool ⟨H3,I3,q3⟩
abbrev Il (r r':R2) (ta tb tc:TE):TE:=fun σ H Q=>ta σ H fun x H1=>tb σ H1 fun y H2=>r x y H2 fun z H3=>∃ k,z=.bl k /\
 (if k=true then tc σ H3 fun w' H4=>r' y w' H4 Q else Q (.bl false) H3)
theorem Kn {op op':CmpOp} {r r':R2} (ho:CN X (compareOp op) r) (ho':CN X (compareOp op') r') (ha:PE X a ta) (hb:PE X b tb) (hc:PE X c tc)
    (hm:lastMarks [op,op'] [b,c]=false:=by with_unfolding_all rfl):PE X (.Compare a [op,op'] [b,c] pos) (Il r r' ta tb tc):=by
  intro pins s σ H Q I h;refine Compare_chain (AZ (ha pins s σ H _ I h) fun v s1 ⟨x,H1,I1,r1,q1⟩=>chain_link (AZ (hb pins s1 σ H1 _ I1 q1) fun u s2 ⟨y,H2,I2,r2,q2⟩ =>
    AZ (ho pins s2 σ H2 x y v u _ I2 r1 r2 q2) fun d s3 ⟨z,H3,I3,r3,k,e,q3⟩=>?_)) hm
  subst e;cases r3;refine wpAny_truthy_bool ?_;cases k with
  | false=>exact ite_ff ⟨.bl false,H3,I3,rfl,q3⟩
  | true=>exact ite_tt (chain_last (AZ (hc pins s3 σ H3 _ I3 q3) fun w' s4 ⟨z',H4,I4,r4,q4⟩=>ho' pins s4 σ H4 y z' u w' Q I4 r2 r4 q4))
theorem Kf {op op':CmpOp} {r r':R2} (ho:CN X (compareOp op) r) (ho':CN X (compareOp op') r') (ha:PE X a ta) (hb:PE X b tb) (hc:PE X c tc)
    (hm:lastMarks [op,op'] [b,c]=false:=by with_unfolding_all rfl):PT X (.Compare a [op,op'] [b,c] pos) (XJ (Il r r' ta tb tc)):=by
  intro pins s σ H Q I h;refine isTrue_chain (AZ (ha pins s σ H _ I h) fun v s1 ⟨x,H1,I1,r1,q1⟩=>test_link (AZ (hb pins s1 σ H1 _ I1 q1) fun u s2 ⟨y,H2,I2,r2,q2⟩ =>
    AZ (ho pins s2 σ H2 x y v u _ I2 r1 r2 q2) fun d s3 ⟨z,H3,I3,r3,k,e,q3⟩=>?_)) hm
  subst e;cases r3;refine wpAny_truthy_bool ?_;cases k with
  | false =>
    obtain ⟨k',e',q'⟩:=q3;cases e';exact ite_ff ⟨H3,I3,q'⟩
  | true =>
    refine ite_tt (test_last (AZ (hc pins s3 σ H3 _ I3 q3) fun w' s4 ⟨z',H4,I4,r4,q4⟩=>AZ (ho' pins s4 σ H4 y z' u w' _ I4 r2 r4 q4) fun d' s5 ⟨z2,H5,I5,r5,k2,e2,q5⟩=>?_));subst e2;cases r5;exact wpAny_truthy_bool ⟨H5,I5,q5⟩
def Tz (K:W.Frag) (x:V) (H:Hp) (k:Bool):Prop:=
 match x with
 | .non=>k=false
 | .bl b=>k=b
 | .int i=>k=(i != 0)
 | .str y=>y.length<=sizeLine/\k=((y.length:Int) != 0)
 | .byt y=>y.size<=sizeLine/\k=((y.size:Int) != 0)
 | .ref p=>(∃ xs,Bq K H p xs/\k=!xs.isEmpty)\/(∃ xs,Ds K H p xs/\k=!xs.isEmpty)\/∃ kvs,H p=some (.dK kvs)/\k=!kvs.isEmpty
 | _=>False
theorem MT {κ:Type} {kvs:List (κ×V)} {vs:List (κ×Value)} (r:KV kvs vs):(!vs.isEmpty)=!kvs.isEmpty:=by
 cases r<;>rfl
theorem Gr {xs:List V} {its:List Value} (r:AD xs its):(!its.toArray.isEmpty)=!xs.isEmpty:=by
 cases r<;>simp
theorem FK:(sizeLine:Nat) < 2 ^ 63:=by rw [sizeLine_eq];decide
theorem YQ:gw X (fun x H Q=>∃ k,Tz X.K x H k/\Q k H):=by
 intro pins s σ H x v Q I rx h;obtain ⟨k,e,q⟩:=h;have hl:=FK;have hs:sizeLine=16777216:=sizeLine_eq;cases x with
 | non =>
  cases rx;have e':k=false:=e;subst e';exact truthy_none ⟨H,I,q⟩
 | bl b =>
  cases rx;have e':k=b:=e;subst e';exact wpAny_truthy_bool ⟨H,I,q⟩
 | int i =>
  obtain ⟨t,rfl⟩:=rx;have e':k=(i != 0):=e;subst e';exact PySem.P.truthy_int ⟨H,I,q⟩
 | str y =>
  obtain ⟨t,rfl⟩:=rx;obtain ⟨hy,e'⟩:y.length<=sizeLine/\k=((y.length:Int) != 0):=e;subst e';exact PySem.P.truthy_str (by omega) ⟨H,I.tok _,q⟩
 | byt y =>
  obtain ⟨t,rfl⟩:=rx;obtain ⟨hy,e'⟩:y.size<=sizeLine/\k=((y.size:Int) != 0):=e;subst e';exact W.truthy_bytes (by omega) ⟨H,I.tok _,q⟩
 | ref p =>
  cases rx;have e':(∃ xs,Bq X.K H p xs/\k=!xs.isEmpty)\/(∃ xs,Ds X.K H p xs/\k=!xs.isEmpty)\/∃ kvs,H p=some (.dK kvs)/\k=!kvs.isEmpty:=e;rcases e' with ⟨xs,hx,e'⟩ | ⟨xs,hx,e'⟩ | ⟨kvs,hx,e'⟩
  ·subst e';obtain ⟨its,r,pl,hz⟩:=I.list hx;have hlen:=r.length;exact wpAny_truthy_list pl.isList (by simp only [List.size_toArray];omega) ⟨H,I.tok _,by rw [Gr r];exact q⟩
  ·subst e';obtain ⟨its,r,pl,hz⟩:=I.tuple hx;have hlen:=r.length;exact truthy_tuple pl (by simp only [List.size_toArray];omega) ⟨H,I.tok _,by rw [Gr r];exact q⟩
  ·subst e';obtain ⟨hz,hS,vs,r,m⟩:kvs.length<=sizeLine/\(p == sysModules)=false/\∃ vs,KV kvs vs/\s.heap.DictOf (JK X.prog X.w) p vs:=I.hok p _ hx;have hlen:kvs.length=vs.length:=Paired.length r;exact wpAny_truthy_dict hS m (by omega) ⟨H,I.tok _,by rw [MT r];exact q⟩
 | _=>exact (show False from e).elim
theorem RI (ha:PE X a ta) (he:∀ whole,isTrue a X.env whole=(do let v <- whole;standAt a.pos;holding [v] (truthy v))) :
    PT X a (fun σ H Q=>ta σ H fun x H'=>∃ k,Tz X.K x H' k/\Q k H'):=by
  intro pins s σ H Q I h;exact isTrue_plain (AZ (ha pins s σ H _ I h) fun v s1 ⟨x,H1,I1,r1,q1⟩=>YQ pins s1 σ H1 x v Q I1 r1 q1) (he _)
theorem MH:CN X (binaryOp .Add) (fun x y H Q=>∃ i j,x=.str i/\y=.str j/\i.length+j.length<=sizeLine/\Q (.str (i++j)) H):=by
 intro pins s σ H x y v u Q I rx ry h;obtain ⟨i,j,rfl,rfl,hz,q⟩:=h;obtain ⟨t,rfl⟩:=rx;obtain ⟨t',rfl⟩:=ry;exact add_str (fun t' tk=>⟨.str (i++j),H,I.tok _,⟨_,rfl⟩,q⟩) hz
theorem vals1 {x:V} {us:List Value} (r:AD [x] us):∃ u,us=[u]/\RelV x u:=by
 cases r with
 | cons r1 r2=>cases r2;exact ⟨_,rfl,r1⟩
theorem XF {x y:V} {us:List Value} (r:AD [x,y] us):∃ u w',us=[u,w']/\RelV x u/\RelV y w':=by
 cases r with
 | cons r1 r2 =>
  cases r2 with
  | cons r3 r4=>cases r4;exact ⟨_,_,rfl,r1,r3⟩
theorem PU (hc:X.calm=true):BC X (.builtin "max") (fun xs H Q=>∃ i j,xs=[.int i,.int j]/\Q (.int (if j > i then j else i)) H):=by
 intro pins s σ H xs us Q I r h;obtain ⟨i,j,rfl,q⟩:=h;obtain ⟨u,w',rfl,⟨t,rfl⟩,⟨t',rfl⟩⟩:=XF r;refine max_two_ints (I.ok.hd hc) fun h' tk k=>⟨_,H,I.kept k,?_,q⟩
 by_cases hj:j > i
 ·rw [if_pos hj,if_pos hj];exact ⟨_,rfl⟩
 ·rw [if_neg hj,if_neg hj];exact ⟨_,rfl⟩
theorem PQ (hc:X.calm=true):BC X (.builtin "min") (fun xs H Q=>∃ i j,xs=[.int i,.int j]/\Q (.int (if j < i then j else i)) H):=by
 intro pins s σ H xs us Q I r h;obtain ⟨i,j,rfl,q⟩:=h;obtain ⟨u,w',rfl,⟨t,rfl⟩,⟨t',rfl⟩⟩:=XF r;refine min_two_ints (I.ok.hd hc) fun h' tk k=>⟨_,H,I.kept k,?_,q⟩
 by_cases hj:j < i
 ·rw [if_pos hj,if_pos hj];exact ⟨_,rfl⟩
 ·rw [if_neg hj,if_neg hj];exact ⟨_,rfl⟩
theorem PZ:BC X (.type "int") (fun xs H Q=>(∃ i,xs=[.int i]/\Q (.int i) H)\/∃ k,xs=[.bl k]/\Q (.int (if k then 1 else 0)) H):=by
 intro pins s σ H xs us Q I r h;rcases h with ⟨i,rfl,q⟩ | ⟨k,rfl,q⟩
 ·obtain ⟨u,rfl,t,rfl⟩:=vals1 r;exact call_int_int ⟨.int i,H,I,⟨_,rfl⟩,q⟩
 ·obtain ⟨u,rfl,r1⟩:=vals1 r;cases r1;exact call_int_bool ⟨.int (if k then 1 else 0),H,I.tok _,⟨_,rfl⟩,q⟩
theorem Ji:BC X (.type "str") (fun xs H Q=>∃ i,xs=[.int i]/\i.natAbs.log2 < 1920/\Q (.str (toString i)) H):=by
 intro pins s σ H xs us Q I r h;obtain ⟨i,rfl,hz,q⟩:=h;obtain ⟨u,rfl,t,rfl⟩:=vals1 r;exact PySem.P.str_of_int hz ⟨.str _,H,I.tok _,⟨_,rfl⟩,q⟩
def fJ (K:W.Frag) (x:V) (H:Hp) (n:Nat):Prop:=
 match x with
 | .str y=>y.length<=sizeLine/\n=y.length
 | .byt y=>y.size<=sizeLine/\n=y.size
 | .ref p=>(∃ xs,Bq K H p xs/\n=xs.length)\/∃ xs,Ds K H p xs/\n=xs.length
 | _=>False
theorem Sv:BC X (.builtin "len") (fun xs H Q=>∃ x n,xs=[x]/\fJ X.K x H n/\Q (.int n) H):=by
 intro pins s σ H xs us Q I r h;obtain ⟨x,n,rfl,e,q⟩:=h;obtain ⟨u,rfl,rx⟩:=vals1 r;have hl:=FK;have hs:sizeLine=16777216:=sizeLine_eq;cases x with
 | str y =>
  obtain ⟨t,rfl⟩:=rx;obtain ⟨hy,e'⟩:y.length<=sizeLine/\n=y.length:=e;subst e';exact len_str (by omega) ⟨.int _,H,I.tok _,⟨_,rfl⟩,q⟩
 | byt y =>
  obtain ⟨t,rfl⟩:=rx;obtain ⟨hy,e'⟩:y.size<=sizeLine/\n=y.size:=e;subst e';exact W.len_bytes (by omega) ⟨.int _,H,I.tok _,⟨_,rfl⟩,q⟩
 | ref p =>
  cases rx;have e':(∃ xs,Bq X.K H p xs/\n=xs.length)\/∃ xs,Ds X.K H p xs/\n=xs.length:=e;rcases e' with ⟨xs,hx,e'⟩ | ⟨xs,hx,e'⟩
  ·subst e';obtain ⟨its,r',pl,hz⟩:=I.list hx;have hlen:=r'.length;exact Calls.call_len_list pl.isList (by simp only [List.size_toArray];omega) ⟨.int xs.length,H,I.tok _,⟨_,by simp only [List.size_toArray];rw [hlen]⟩,q⟩
  ·subst e';obtain ⟨its,r',pl,hz⟩:=I.tuple hx;have hlen:=r'.length;exact len_tuple pl (by simp only [List.size_toArray];omega) ⟨.int xs.length,H,I.tok _,⟨_,by simp only [List.size_toArray];rw [hlen]⟩,q⟩
 | _=>exact (show False from e).elim
end
structure ObjM (h:Heap) (x dx C:Addr) (mA:Str->Option Value):Prop where
 obj:h.get? x=some (W.instObj C dx)
 ns:h.Ns1 dx mA
 ne:dx≠x
theorem Ow {h:Heap} {dx:Addr} {mA:Str->Option Value} (n:h.Ns1 dx mA):∃ od,h.get? dx=some od/\∀ name,W.lookIn name od=some (mA name):=by
  obtain ⟨o,es,ep,ho,hd,hk,_,hm⟩:=n;refine ⟨o,ho,fun name=>?_⟩;have e:=hm name;unfold nsFind findBy at e;rw [<- Array.find?_toList] at e;unfold W.lookIn;rw [hd];dsimp only;split
  · rename_i y q;rw [q] at e;exact congrArg some e
  · rename_i q;rw [q] at e;have a:es.toList.any (·.refKey)=false:=by
      rw [List.any_eq_false];intro y hy;obtain ⟨z,t,hkey⟩:=hk y (Array.mem_toList_iff.mp hy);simp [DictEntry.refKey,hkey]
    have a':¬ es.toList.any (·.refKey)=true:=by rw [a];exact Bool.false_ne_true
    rw [if_neg a'];exact congrArg some e
theorem ObjM.look {h:Heap} {x dx C:Addr} {mA:Str->Option Value} (I:ObjM h x dx C mA):∃ od,W.InstAt h x (W.instObj C dx) C (some od)/\∀ name,W.lookIn name od=some (mA name):=
 let ⟨od,ho,hl⟩:=Ow I.ns
 ⟨od,⟨I.obj,rfl,rfl,ho⟩,hl⟩
section
end
section
variable {P:Program} {w:World} {H H':Hp} {h h':Heap} {a C dx:Addr} {fs fs':List (Str×V)}
theorem Vq (hok:Fi P w H h) (e:H a=some (.ins C dx fs)):∃ mA,ObjM h a dx C mA/\(∀ f,bS (fs.lookup f) (mA f))/\PySem.Within mA (fs.map (·.1))/\fs.length<=1000/\H dx=some (.own a):=by
 obtain ⟨d,z,ne,ob,mA,n,r,q⟩:=(show Al P w H h a (.ins C dx fs) from hok a _ e);exact ⟨mA,⟨ob,n,ne⟩,r,q,z,d⟩
end
structure Cls (K:W.Frag) (C:Addr):Prop where
 pg:W.plainGet K C Str.empty=true
 hd:W.hasDictIn K C=true
 po:W.plainOver K C=true
 sa:W.findIn K (.ref C) "__setattr__" = some (some (.builtin "object.__setattr__"))
theorem Cls.get {K:W.Frag} {C:Addr} (c:Cls K C) (f:Str):W.plainGet K C f=true:=c.pg
section
end
section
end
section
variable {X:Cx} {pins:List (Addr×Obj)} {σ:St} {H:Hp} {s:Shared} {A:Around} {E:Value->Shared->Prop} {Q:Value->Shared->Prop} {c:Value} {b:Bool}
inductive TyOf (K:W.Frag) (H:Hp):V->Value->Prop where
  | non:TyOf K H .non (.type "NoneType")
  | bl (x:Bool):TyOf K H (.bl x) (.type "bool")
  | int (i:Int):TyOf K H (.int i) (.type "int")
  | str (x:Str):TyOf K H (.str x) (.type "str")
  | flt (x:UInt64):TyOf K H (.flt x) (.type "float")
  | lst {a:Addr} {xs:List V} (e:H a=some (.lst xs)):TyOf K H (.ref a) (.type "list")
  | frz {a:Addr} {o:Obj} {xs:List V} (e:H a=some (.frz o (.lst xs))):TyOf K H (.ref a) (.type "list")
  | tup {a:Addr} {xs:List V} (e:H a=some (.tup xs)):TyOf K H (.ref a) (.type "tuple")
  | dK {a:Addr} {kvs:List (Ii×V)} (e:H a=some (.dK kvs)):TyOf K H (.ref a) (.type "dict")
  | dT {a:Addr} {kvs:List (List Ii×V)} (e:H a=some (.dT kvs)):TyOf K H (.ref a) (.type "dict")
  | ins {a C dx:Addr} {fs:List (Str×V)} (e:H a=some (.ins C dx fs)) (cl:Cls K C) (ha:W.findIn K (.ref C) "__class__" = some (some (.builtin "object.__class__")))
      (hn:W.specialIn K (.builtin "object.__class__") "__get__" = some (some (.builtin "getset_descriptor.__get__"))) (htk:W.takesIn K (.builtin "object.__class__")=some true)
      (hm:W.mroIn K C (.type "object")=some true):TyOf K H (.ref a) (.ref C)
theorem Oy {x:V} {u t:Value} (I:Inv X pins σ H s) (rx:RelV x u) (ty:TyOf X.K H x t) (e:W.kitOne X.K t c=some b) (h:∀ tk,Q (.bool b) { s with toks:=tk }) :
    wpAny (model X.prog X.w) A (call (.builtin "isinstance") [u,c]) Q E s:=by
  cases ty with
  | non=>cases (show u=Value.none from rx);exact W.kia_one W.kitx_none I.kIn True.intro e (fun z=>nomatch z) h
  | bl y=>cases (show u=Value.bool y from rx);exact W.kia_one W.kitx_bool I.kIn True.intro e (fun z=>nomatch z) h
  | int i=>obtain ⟨t,q⟩:=(show ∃ t,u=Value.int i t from rx);cases q;exact W.kia_one W.kitx_int I.kIn True.intro e (fun z=>nomatch z) h
  | str y=>obtain ⟨t,q⟩:=(show ∃ t,u=Value.str y t from rx);cases q;exact W.kia_one W.kitx_str I.kIn True.intro e (fun z=>nomatch z) h
  | flt y=>obtain ⟨t,q⟩:=(show ∃ t,u=Value.float y t from rx);cases q;exact W.kia_one W.kitx_float I.kIn True.intro e (fun z=>nomatch z) h
  | @lst a xs ea =>
    cases (show u=Value.ref a from rx);obtain ⟨_,_,n,_,h1⟩:=(show Al X.prog X.w H s.heap a (.lst xs) from I.hok a _ ea);exact W.kia_one W.kitx_list I.kIn ⟨_,h1,rfl⟩ e (fun z=>nomatch z) h
  | @frz a ob xs ea =>
    cases (show u=Value.ref a from rx);obtain ⟨_,_,_,n,_,h1⟩:=(show Al X.prog X.w H s.heap a (.frz ob (.lst xs)) from I.hok a _ ea);exact W.kia_one W.kitx_list I.kIn ⟨_,h1,rfl⟩ e (fun z=>nomatch z) h
  | @tup a xs ea =>
    cases (show u=Value.ref a from rx);obtain ⟨_,_,_,p⟩:=(show Al X.prog X.w H s.heap a (.tup xs) from I.hok a _ ea);obtain ⟨o,h1,h2,_⟩:=p;exact W.kia_one W.kitx_tuple I.kIn ⟨o,h1,h2⟩ e (fun z=>nomatch z) h
  | @dK a kvs ea =>
    cases (show u=Value.ref a from rx);obtain ⟨_,_,vs,_,p⟩:=(show Al X.prog X.w H s.heap a (.dK kvs) from I.hok a _ ea);obtain ⟨o,es,ep,h1,h2,_⟩:=p;exact W.kia_one W.kitx_dict I.kIn ⟨o,h1,h2.1⟩ e (fun z=>nomatch z) h
  | @dT a kvs ea =>
    cases (show u=Value.ref a from rx);obtain ⟨_,_,xs,_,o,es,ep,h1,h2,_⟩:=(show Al X.prog X.w H s.heap a (.dT kvs) from I.hok a _ ea);exact W.kia_one W.kitx_dict I.kIn ⟨o,h1,h2.1⟩ e (fun z=>nomatch z) h
  | @ins a C dx fs ea cl ha hn htk hm =>
    cases (show u=Value.ref a from rx);obtain ⟨mA,O,_⟩:=Vq I.hok ea;obtain ⟨od,J,_⟩:=O.look;exact W.kia_one (W.kitx_own (cl.get _) cl.hd ha hn htk hm) I.kIn J e (fun z=>nomatch z) h
end
structure Room (k:Nat) (A:Around):Prop where
 hd:A.handled=none
 dp:A.depth+3 * k+5 < recursionLimit
 un:A.units+16 * k+200 < cLine
 gd:A.guards=some []
theorem Room.mono {j k:Nat} {A:Around} (r:Room k A) (h:j<=k):Room j A:=⟨r.hd,by have:=r.dp;omega,by have:=r.un;omega,r.gd⟩
theorem Room.deeper {k:Nat} {A:Around} (r:Room (k+1) A) (env:Env):Room k (A.deeper env):=
 ⟨r.hd,by have:=r.dp;show A.depth+1+3 * k+5 < _;omega,by have:=r.un;show A.units+3+16 * k+200 < _;omega,r.gd⟩
theorem Room.depth {k:Nat} {A:Around} (r:Room k A):A.depth < recursionLimit:=by have:=r.dp;omega
abbrev UV:TA:=fun _ H Q=>Q [] H
abbrev XO (ta:TE) (tr:TA):TA:=fun σ H Q=>ta σ H fun x H1=>tr σ H1 fun xs H2=>Q (x::xs) H2
section
variable {X:Cx} {e:Expr} {es:List Expr} {te:TE} {t:TA} {pos:Pos}
theorem Za:PA X [] UV:=fun _ _ _ _ H Q I h=>Calls.spliced_nil ⟨[],H,I,.nil,h⟩
theorem NW (ha:PE X e te) (hr:PA X es t) (hs:starEach (e::es) X.env=(false,eval e X.env)::starEach es X.env:=by rfl):PA X (e::es) (XO te t):=by
 intro pos pins s σ H Q I h;rw [hs];show wpAny _ _ (spliced ((false,eval e X.env)::backTo pos (starEach es X.env))) _ _ s;refine Calls.spliced_cons (AZ (ha pins s σ H _ I h) fun u s1 ⟨x,H1,I1,r1,q1⟩=>?_);exact AZ (hr pos pins s1 σ H1 _ I1 q1) fun us s2 ⟨xs,H2,I2,r2,q2⟩=>⟨x::xs,H2,I2,.cons r1 r2,q2⟩
abbrev gB (t:TA):TE:=fun σ H Q=>t σ H fun xs H1=>xs.length<=sizeLine/\∀ p,H1 p=none->Q (.ref p) (upd H1 p (.tup xs))
abbrev gF (t:TA):TE:=fun σ H Q=>t σ H fun xs H1=>xs.length<=sizeLine/\∀ p,H1 p=none->Q (.ref p) (upd H1 p (.lst xs))
theorem ZQ {x1} (h:PA X es t):PE X (.Tuple es x1 pos) (gB t):=by
 intro pins s σ H Q I hq;refine wpAny_Tuple_spliced (AZ (h pos pins s σ H _ I hq) fun us s1 ⟨xs,H1,I1,r,z,q⟩=>⟨by rw [<- r.length];exact z,?_⟩);have hf:H1 s1.heap.objs.size=none:=I1.hok.fresh (Nat.le_refl _);refine ⟨.ref s1.heap.objs.size,upd H1 s1.heap.objs.size (.tup xs),I1.laid (t':=s1.toks) (fun b u e=>Heap.get?_push_of_some _ e) (Nat.le_refl _) ?_,rfl,q _ hf⟩;exact ⟨z,us,r,⟨_,Heap.get?_push_size _ rfl,rfl,rfl,_,rfl⟩⟩
theorem ZV (h:PA X es t):PE X (.List es pos) (gF t):=by
 intro pins s σ H Q I hq;refine wpAny_List_spliced (AZ (h pos pins s σ H _ I hq) fun us s1 ⟨xs,H1,I1,r,z,q⟩=>⟨by rw [<- r.length];exact z,?_⟩);have hf:H1 s1.heap.objs.size=none:=I1.hok.fresh (Nat.le_refl _);refine ⟨.ref s1.heap.objs.size,upd H1 s1.heap.objs.size (.lst xs),I1.laid (t':=s1.toks) (fun b u e=>Heap.get?_push_of_some _ e) (Nat.le_refl _) ?_,rfl,q _ hf⟩;exact ⟨z,us,0,r,Heap.get?_push_size _ rfl⟩
end
abbrev Sp:=List V->Hp->VK->XK->Prop
abbrev UE:=List Env->Hp->Shared->XK->Value->Shared->Prop
structure Env0 (P:Program) (w:World) (K:W.Frag) (mg:Str->Option Value) (base:Heap) (A:Around) (outer:List Env) (s:Shared) (H:Hp):Prop where
 frames:A.frames=some outer
 mod:Mod K mg base
 bs:∀ b o,base.get? b=some o->s.heap.get? b=some o/\H b=none
 bsz:base.objs.size<=s.heap.objs.size
 funs:s.heap.FunFrames base outer
 frf:∀ b∈Ng outer,H b=none
 hok:Fi P w H s.heap
 bare:AllBare s.gens
def CE (outer:List Env) (P:Program) (w:World) (H:Hp) (s:Shared) (Q:VK) (u:Value) (s':Shared):Prop:=
 ∃ v H',s'.os=s.os/\AllBare s'.gens/\Un (Ng outer) [] H H' s.heap s'.heap/\Fi P w H' s'.heap/\RelV v u/\Q v H'
def CR (CX:UE) (outer:List Env) (P:Program) (w:World) (H:Hp) (s:Shared) (Q:VK) (E:XK) (r:Result) (s':Shared):Prop:=
 match r with
 | .ok (.ret u)=>CE outer P w H s Q u s'
 | .ok _=>False
 | .error e=>CX outer H s E e s'
structure FnOk (P:Program) (w:World) (K:W.Frag) (mg:Str->Option Value) (base:Heap) (CX:UE) (k:Nat) (f:Addr) (fd:FuncData) (ps:List Str) (sp:Sp):Prop where
 len:∀ vs H Q E,sp vs H Q E->vs.length=ps.length
 run:∀ (A:Around) (outer:List Env) (s:Shared) (H:Hp) (args:Args) (us:List Value) (vs:List V) (Q:VK) (E:XK),Room k A->Env0 P w K mg base A outer s H->BindsTo s fd args (ps.zip us)->AD vs us->sp vs H Q E ->
  codeAny (model P w) A (.call (.ref f) args) (CR CX outer P w H s Q E) s
theorem FnOk.imp {P:Program} {w:World} {K:W.Frag} {mg:Str->Option Value} {base:Heap} {CX:UE} {k:Nat} {f:Addr} {fd:FuncData} {ps:List Str} {sp sp':Sp} (F:FnOk P w K mg base CX k f fd ps sp)
    (h:∀ vs H Q E,sp' vs H Q E->sp vs H Q E):FnOk P w K mg base CX k f fd ps sp':=
  ⟨fun vs H Q E q=>F.len vs H Q E (h _ _ _ _ q),fun A outer s H args us vs Q E hr he hb hv hs=>F.run A outer s H args us vs Q E hr he hb hv (h _ _ _ _ hs)⟩
section
variable {X:Cx} {pins:List (Addr×Obj)} {σ:St} {H:Hp} {s s':Shared}
theorem Inv.env0 (I:Inv X pins σ H s):Env0 X.prog X.w X.K X.mg X.base X.A X.stack s H:=
 ⟨I.ok.frames,I.ok.mod,I.bs,Nat.le_trans I.ok.bsz I.sz,I.stack,I.stkFree,I.hok,I.bare⟩
theorem Inv.after {Q:VK} {u:Value} (I:Inv X pins σ H s) (h:CE X.stack X.prog X.w H s Q u s'):EP X pins σ Q u s':=by
 obtain ⟨v,H',os,bare,un,hok,r,q⟩:=h;obtain ⟨hh,g,d,t,os'⟩:=s';obtain rfl:os'=s.os:=os;exact ⟨v,H',I.call (h':=hh) (g':=g) (d':=d) (t':=t) (ch:=[]) un hok bare (fun b z=>absurd z (by simp)),r,q⟩
end
abbrev XQ (sp:Sp) (dvs:List V) (E:XK) (t:TA):TE:=fun σ H Q=>t σ H fun vs H1=>sp (vs++dvs) H1 Q E
def Binds (K:W.Frag) (fd:FuncData) (ps:List Str) (ds:List Value):Prop:=
 ∀ (s:Shared) (us:List Value),K.In s.heap->(us++ds).length=ps.length->BindsTo s fd ⟨us,[]⟩ (ps.zip (us++ds))
theorem Binds.all {K:W.Frag} {fd:FuncData} {ps:List Str} (h:∀ us:List Value,us.length=ps.length->bindArgs fd ⟨us,[]⟩=pure (ps.zip us)):Binds K fd ps []:=fun s us _ hl=>by
 rw [List.append_nil] at hl ⊢;exact .of_eq (h us hl)
def Jx (CX:UE) (X:Cx) (E:XK):Prop:=∀ (pins:List (Addr×Obj)) (σ:St) (H:Hp) (s:Shared) (e:Value) (s':Shared),Inv X pins σ H s->CX X.stack H s E e s'->X.xe e s'
section
variable {X:Cx} {CX:UE} {k:Nat} {f C:Addr} {fd:FuncData} {ps:List Str} {sp:Sp} {dvs:List V} {ds:List Value} {E:XK} {x m:Str} {p pos apos:Pos} {e o:Expr} {es:List Expr} {ta:TE} {t:TA}
theorem Qw {pins:List (Addr×Obj)} {σ:St} {H:Hp} {s:Shared} {Q:VK} {us:List Value} {vs:List V} (F:FnOk X.prog X.w X.K X.mg X.base CX k f fd ps sp) (hr:Room k X.A) (hb:Binds X.K fd ps ds) (hd:AD dvs ds) (hx:Jx CX X E)
    (I:Inv X pins σ H s) (r:AD vs us) (h:sp (vs++dvs) H Q E):wpAny (model X.prog X.w) X.A (call (.ref f) us) (EP X pins σ Q) X.xe s:=by
  have r2:AD (vs++dvs) (us++ds):=r.append hd;have hl:(us++ds).length=ps.length:=by rw [<- r2.length];exact F.len _ _ _ _ h
  refine wpAny_call (codeAny_mono (F.run X.A X.stack s H ⟨us,[]⟩ (us++ds) (vs++dvs) Q E hr I.env0 (hb s us I.kIn hl) r2 h) fun r s' hq=>?_);cases r with
  | error e=>exact hx pins σ H s e s' I hq
  | ok fl =>
    cases fl with
    | ret u=>exact I.after hq
    | next=>exact False.elim hq
    | brk=>exact False.elim hq
    | cont=>exact False.elim hq
theorem VT (F:FnOk X.prog X.w X.K X.mg X.base CX k f fd ps sp) (hr:Room k X.A) (hg:Gl X x) (hm:X.mg x=some (.ref f)) (hk:W.keepIn X.K (.ref f)=true) (hb:Binds X.K fd ps ds) (hd:AD dvs ds) (hx:Jx CX X E)
    (ha:PA X (e::es) t) (hdb:(x == ("__debug__" : Str))=false:=by decide) (he:starEach (e::es) X.env=(false,eval e X.env)::starEach es X.env:=by rfl) (hpl:(backTo pos (starEach es X.env)).any (·.1)=false:=by rfl) :
    PE X (.Call (.Name x p) (e::es) [] pos) (XQ sp dvs E t):=by
  intro pins s σ H Q I h;refine wpAny_Call_Name_kw (JN I hg hm ?_ hdb);refine W.callWith_K (h₀:=X.base) I.ok.mod.kin hk (AZ (ha pos pins s σ H _ I h) fun us s1 ⟨vs,H1,I1,r,q⟩=>⟨I1.kIn,?_⟩) he hpl;exact Qw F hr hb hd hx I1 r q
theorem Rg (F:FnOk X.prog X.w X.K X.mg X.base CX k f fd ps sp) (hr:Room k X.A) (hg:Gl X x) (hm:X.mg x=some (.ref f)) (hk:W.keepIn X.K (.ref f)=true) (hb:Binds X.K fd ps ds) (hd:AD dvs ds) (hx:Jx CX X E)
    (hdb:(x == ("__debug__" : Str))=false:=by decide):PE X (.Call (.Name x p) [] [] pos) (XQ sp dvs E UV):=by
  intro pins s σ H Q I h;refine wpAny_Call_Name_kw (JN I hg hm ?_ hdb);exact W.callWith_K0 I.kIn hk (Qw (us:=[]) F hr hb hd hx I .nil h)
end
section
end
structure FnScope (N P:List Str) (sc:Scope):Prop where
 kind:sc.kind=.function
 co:sc.isCoroutine=false
 gen:sc.isGenerator=false
 nd:N.Nodup
 pre:N.take P.length=P
 par:∀ x∈P,sc.names.lookup x=some .local\/sc.names.lookup x=some .cell
 nofree:∀ y∈sc.names,y.2≠.free
theorem IW {kindOf:Str->Option NameKind} {x:Str}:∀ {binds:List (Str×Value)} {m:Str->Option Value},(∀ v,(x,v)∉binds)->bindL kindOf binds m x=m x
 | [],_,_=>rfl
 | (n,v)::r,m,h=>by
  unfold bindL;rw [IW fun w hw=>h w (List.mem_cons_of_mem _ hw)];split
  ·have:x≠n:=by rintro rfl;exact h v List.mem_cons_self
   simp [this]
  ·rfl
theorem IY {kindOf:Str->Option NameKind} {x:Str}:∀ {binds:List (Str×Value)} {m:Str->Option Value},(∀ v,(x,v)∉binds)->bindC kindOf binds m x=m x
 | [],_,_=>rfl
 | (n,v)::r,m,h=>by
  unfold bindC;rw [IY fun w hw=>h w (List.mem_cons_of_mem _ hw)];split
  ·rfl
  ·have:x≠n:=by rintro rfl;exact h v List.mem_cons_self
   simp [this]
theorem IX {kindOf:Str->Option NameKind} {x:Str} {v:Value}:∀ {P:List Str} {vs:List Value} {i:Nat} {m:Str->Option Value},P.Nodup->P[i]?=some x->vs[i]?=some v->kindOf x=some .local ->
    bindL kindOf (P.zip vs) m x=some v
  | [],_,_,_,_,h,_,_=>by simp at h
  | _::_,[],_,_,_,_,h,_=>by simp at h
  | p::P,w::vs,0,m,nd,h1,h2,hk=>by
    simp at h1 h2;subst h1;subst h2;show bindL kindOf ((p,w)::P.zip vs) m p=_;unfold bindL;rw [IW fun v hv=>(List.nodup_cons.mp nd).1 (List.of_mem_zip hv).1,if_pos hk];simp
  | p::P,w::vs,i+1,m,nd,h1,h2,hk=>by
    show bindL kindOf ((p,w)::P.zip vs) m x=_;unfold bindL;exact IX (i:=i) (List.nodup_cons.mp nd).2 (by simpa using h1) (by simpa using h2) hk
theorem IZ {kindOf:Str->Option NameKind} {x:Str} {v:Value}:∀ {P:List Str} {vs:List Value} {i:Nat} {m:Str->Option Value},P.Nodup->P[i]?=some x->vs[i]?=some v->kindOf x≠some .local ->
    bindC kindOf (P.zip vs) m x=some v
  | [],_,_,_,_,h,_,_=>by simp at h
  | _::_,[],_,_,_,_,h,_=>by simp at h
  | p::P,w::vs,0,m,nd,h1,h2,hk=>by
    simp at h1 h2;subst h1;subst h2;show bindC kindOf ((p,w)::P.zip vs) m p=_;unfold bindC;rw [IY fun v hv=>(List.nodup_cons.mp nd).1 (List.of_mem_zip hv).1,if_neg hk];simp
  | p::P,w::vs,i+1,m,nd,h1,h2,hk=>by
    show bindC kindOf ((p,w)::P.zip vs) m x=_;unfold bindC;exact IZ (i:=i) (List.nodup_cons.mp nd).2 (by simpa using h1) (by simpa using h2) hk
def start (N:List Str) (vs:List V):St:=vs.map some++List.replicate (N.length - vs.length) none
def LL (CX:UE) (P:Program) (w:World) (K:W.Frag) (mg:Str->Option Value) (base:Heap) (N:List Str) (qual:Str) (scope:Scope) (f:Addr) (cd:Value) (A:Around) (outer:List Env) (s:Shared) (H:Hp) (E:XK):Cx where
 prog:=P
 w:=w
 K:=K
 mg:=mg
 base:=base
 A:=A.deeper (envOfC qual scope s.heap.objs.size f cd)
 N:=N
 s₀:=s
 H₀:=H
 env:=envOfC qual scope s.heap.objs.size f cd
 outer:=outer
 stack:=envOfC qual scope s.heap.objs.size f cd::outer
 ex:=[]
 calm:=true
 fn:=fun _=>true
 pn:=[]
 xe:=fun e s'=>wpAny (model P w) (A.deeper (envOfC qual scope s.heap.objs.size f cd)) (leaving (envOfC qual scope s.heap.objs.size f cd) e) (fun _ s''=>CX outer H s E e s'') (fun e' s''=>CX outer H s E e' s'') s'
theorem LP {sc:Scope} {n:Nat} {x:Str} (h:sc.names.lookup x=some .cell):∃ c,(cellsFrom n sc.names []).lookup x=some c:=by
 have q:=W.cellsFrom_some sc.names n [] (.inl h);exact Option.isSome_iff_exists.mp q
theorem PB {CX:UE} {P:Program} {w:World} {K:W.Frag} {mg:Str->Option Value} {base:Heap} {N ps:List Str} {qual:Str} {scope:Scope} {f:Addr} {cd:Value} {A:Around} {outer:List Env} {s s1:Shared} {H:Hp} {E:XK} {us:List Value} {vs:List V}
    (S:FnScope N ps scope) (hd:A.handled=none) (e0:Env0 P w K mg base A outer s H) (hl:vs.length=ps.length) (r:AD vs us)
    (x:InCallC s s.heap.objs.size (bindL (envOfC qual scope s.heap.objs.size f cd).kindOf (ps.zip us) fun _=>none) (cellsFrom (s.heap.objs.size+1) scope.names []) (bindC (envOfC qual scope s.heap.objs.size f cd).kindOf (ps.zip us) fun _=>none) s1) :
    Inv (LL CX P w K mg base N qual scope f cd A outer s H E) [] (start N vs) H s1:=by
  have hpl:ps.length<=N.length:=by have:=congrArg List.length S.pre;rw [List.length_take] at this;omega
  obtain ⟨h1,tk,rfl,hk⟩:=x.done;have noA:∀ b:Addr,b∉(LL CX P w K mg base N qual scope f cd A outer s H E).ex:=fun b z=>absurd (show b∈([]:List Addr) from z) (by simp)
  refine ⟨⟨e0.mod,S.kind,rfl,rfl,Nat.le_refl _,fun y z c h1 h2=>?_,fun y hy=>?_,fun y c _ h=>?_,fun _=>hd,Around.frames_deeper e0.frames,.inr ⟨rfl,rfl⟩,fun b z=>absurd z (noA b),e0.bs,e0.bsz,fun b _ _=>noA b,fun b z=>absurd z (noA b),e0.funs,e0.frf⟩,
    rfl,e0.bare,Un.kept hk,⟨_,x.toInCall.ns,fun i y v h1 h2 h3=>?_⟩,fun y c h=>⟨_,x.cell y c h⟩,e0.hok.fresh (Nat.le_refl _),fun y c h=>?_,fun p hp=>absurd (show p∈([]:List (Addr×Obj)) from hp) (by simp),e0.hok.kept hk,?_⟩
  · exact name_of_addr x.apart (PySem.mem_of_lookup h1) (PySem.mem_of_lookup h2)
  · have hy:scope.names.lookup y=some .cell\/scope.names.lookup y=some .free:=hy;rcases hy with hy | hy
    · exact LP hy
    · exact absurd rfl (S.nofree _ (PySem.mem_of_lookup hy))
  · exact Nat.le_of_lt (x.above y c (PySem.mem_of_lookup h))
  · have hi:i < vs.length:=by
      unfold start at h2
      by_cases hi:i < vs.length
      · exact hi
      · rw [List.getElem?_append_right (by simpa using hi)] at h2;rw [List.getElem?_replicate] at h2;split at h2<;>cases h2
    have ha:vs[i]?=some v:=by
      unfold start at h2;rw [List.getElem?_append_left (by simpa using hi),List.getElem?_map] at h2;cases e:vs[i]? with
      | none=>rw [e] at h2;cases h2
      | some a=>rw [e] at h2;cases h2;rfl
    obtain ⟨u,hu,rv⟩:=r.get ha;have hp:ps[i]?=some y:=by
      rw [<- S.pre,List.getElem?_take_of_lt (by omega)];exact h1
    have ndP:ps.Nodup:=by rw [<- S.pre];exact S.nd.sublist (List.take_sublist _ _)
    refine ⟨u,rv,?_⟩;rcases S.par y (List.mem_of_getElem? hp) with k | k
    · exact .inl ⟨k,IX ndP hp hu k⟩
    · obtain ⟨c,e⟩:=LP (n:=s.heap.objs.size+1) k;refine .inr ⟨.inl k,c,e,?_⟩;have q:=x.cell y c e;rw [IZ ndP hp hu (by show scope.names.lookup y≠_;rw [k];decide)] at q;exact q
  · exact e0.hok.fresh (Nat.le_of_lt (x.above y c (PySem.mem_of_lookup h)))
  · unfold start;show _=N.length;rw [List.length_append,List.length_map,List.length_replicate];omega
theorem eD {CX:UE} {P:Program} {w:World} {K:W.Frag} {mg:Str->Option Value} {base:Heap} {k:Nat} {f:Addr} {name qual:Str} {params:Arguments} {body:List Stmt} {scope:Scope} {dV kV doc pm cdv ct oc:Value} {an od:Option Addr}
    {osl:Array (Option Value)} {N ps:List Str} {sp:Sp} (lk:K.lookup f=some ⟨oc,od,.func (W.fnOf name qual params body scope dV kV doc pm an cdv ct),osl⟩) (hcd:W.codeIn K cdv qual=true) (S:FnScope N ps scope)
    (len:∀ vs H Q E,sp vs H Q E->vs.length=ps.length)
    (hbody:∀ (A:Around) (outer:List Env) (s:Shared) (H:Hp) (vs:List V) (Q:VK) (E:XK),Room k (A.deeper (envOfC qual scope s.heap.objs.size f cdv))->sp vs H Q E ->
      ∃ t,DL (LL CX P w K mg base N qual scope f cdv A outer s H E) body t/\t { nx:=fun _ H'=>Q .non H',rt:=Q } (start N vs) H) :
    FnOk P w K mg base CX (k+1) f (W.fnOf name qual params body scope dV kV doc pm an cdv ct) ps sp:=by
  refine ⟨len,fun A outer s H args us vs Q E hr e0 hb r hsp=>?_⟩;have hl:=len _ _ _ _ hsp;have KX:K.In s.heap:=e0.mod.kin.keeps fun b o e=>(e0.bs b o e).1
  have lim:s.heap.NoLimit:=e0.mod.nolimit.keeps fun b o e=>(e0.bs b o e).1
  have hkind:∀ y∈ps.zip us,scope.names.lookup y.1=some .local\/(scope.names.lookup y.1=some .cell/\((cellsFrom (s.heap.objs.size+1) scope.names []).lookup y.1).isSome=true):=fun ⟨n,v⟩ hy=>by
    rcases S.par n (List.of_mem_zip hy).1 with q | q
    · exact .inl q
    · exact .inr ⟨q,W.cellsFrom_some _ _ _ (.inl q)⟩
  refine codeAny_call_function hr.depth (KX _ _ lk) rfl S.co S.gen rfl (W.codeRec_of KX hcd) (hb _ _ _ _ ?_);refine wpAny_newFunctionEnv_cells S.kind hkind fun env he s1 x=>?_
  subst he;refine ⟨lim.keeps x.toInCall.keep,codeAny_func ?_⟩;obtain ⟨t,ht,hq⟩:=hbody A outer s H vs Q E (hr.deeper _) hsp;have I:Inv (LL CX P w K mg base N qual scope f cdv A outer s H E) [] (start N vs) H s1:=PB S hr.hd e0 hl r x;refine wpAny_mono (ht [] s1 (start N vs) H _ I hq) (fun fl s' hs=>?_) fun e s' hs=>hs
  have fin:∀ {σ':St} {H':Hp} {v:V} {u:Value},Inv (LL CX P w K mg base N qual scope f cdv A outer s H E) [] σ' H' s'->RelV v u->Q v H'->CE outer P w H s Q u s':=
    fun {σ' H' v u} J rv q=>⟨v,H',J.os,J.bare,J.base,J.hok,rv,q⟩
  cases fl with
  | ret u =>
    obtain ⟨v,σ',H',J,rv,q⟩:=hs;exact fin J rv q
  | next =>
    obtain ⟨σ',H',J,q⟩:=hs;exact fin (v:=V.non) (u:=Value.none) J rfl q
  | brk =>
    obtain ⟨_,_,_,q⟩:=hs;exact False.elim q
  | cont =>
    obtain ⟨_,_,_,q⟩:=hs;exact False.elim q
section
variable {X:Cx} {x:Str} {p pos:Pos} {e:Expr} {es:List Expr} {t:TA} {id T:String} {r:List V->Hp->VK->Prop}
abbrev iF (r:List V->Hp->VK->Prop) (t:TA):TE:=fun σ H Q=>t σ H fun vs H1=>r vs H1 Q
theorem Rf (hc:BC X (.builtin id) r) (hg:Gl X x) (hm:X.mg x=none) (hv:bootBuiltins x=some (.builtin id)) (ha:PA X (e::es) t) (hn:x ≠ "__name__" := by decide) (hdb:(x == ("__debug__" : Str))=false:=by decide)
    (he:starEach (e::es) X.env=(false,eval e X.env)::starEach es X.env:=by rfl) (hpl:(backTo pos (starEach es X.env)).any (·.1)=false:=by rfl):PE X (.Call (.Name x p) (e::es) [] pos) (iF r t):=by
  intro pins s σ H Q I h;refine wpAny_Call_Name_kw (BR I hg hm hv ?_ hn hdb);exact PyProof.Rows.callWith_builtin1 (AZ (ha pos pins s σ H _ I h) fun us s1 ⟨vs,H1,I1,r1,q1⟩=>hc pins s1 σ H1 vs us Q I1 r1 q1) he hpl
theorem Og (hc:BC X (.type T) r) (hg:Gl X x) (hm:X.mg x=none) (hv:bootBuiltins x=some (.type T)) (ha:PA X (e::es) t) (hn:x ≠ "__name__" := by decide) (hdb:(x == ("__debug__" : Str))=false:=by decide)
    (he:starEach (e::es) X.env=(false,eval e X.env)::starEach es X.env:=by rfl) (hpl:(backTo pos (starEach es X.env)).any (·.1)=false:=by rfl):PE X (.Call (.Name x p) (e::es) [] pos) (iF r t):=by
  intro pins s σ H Q I h;refine wpAny_Call_Name_kw (BR I hg hm hv ?_ hn hdb);exact PyProof.Rows.callWith_type1 (AZ (ha pos pins s σ H _ I h) fun us s1 ⟨vs,H1,I1,r1,q1⟩=>hc pins s1 σ H1 vs us Q I1 r1 q1) he hpl
end
end L2
namespace HT
open PySem PyProof.Rows
section
open PySem.SeqAt
open PySem.AutoSeq1 (wpAny_loadPart')
open PySem.MeetsSeq PySem.MeetsSeq2 PySem.MeetsSeq3
end
section
variable {prog:Program} {w:World} {A:Around} {E:Value->Shared->Prop} {s:Shared}
theorem cat_tup {t b:Addr} {vs ws:List Value} {Q:Value->Shared->Prop} (ht:IsTup s.heap t vs.toArray) (hb:IsTup s.heap b ws.toArray) (hv:vs≠[])
    (h1:ws=[]->Q (.ref t) s) (h2:ws≠[]->Q (.ref s.heap.objs.size) { s with heap:=s.heap.push { cls:=.type "tuple", data:=.seq (vs++ws).toArray } })
    (hsz:vs.length+ws.length<=sizeLine):wpAny (model prog w) A (binaryOp .Add (.ref t) (.ref b)) Q E s:=by
  obtain ⟨⟨cls,dd,data,sl⟩,ho,hc,n,hd⟩:=id ht;obtain ⟨⟨cls2,dd2,data2,sl2⟩,ho2,hc2,n2,hd2⟩:=id hb;simp only at hc hd hc2 hd2;subst hc hd hc2 hd2;have e:vs.toArray++ws.toArray=(vs++ws).toArray:=by simp
  by_cases hw:ws=[]
  · exact concat_meets ⟨_,ho,rfl⟩ ⟨_,ho2,rfl⟩ noFill_tuple_add seq_tuple_add PySem.F.slot_tuple_add PySem.F.entry_tuple_add (PySem.F.args_tuple_add_2 _ _)
      (tuple_addW1 t b vs.toArray ws.toArray n n2 dd dd2 sl sl2 (by simpa using hv) (by simp [hw])) ⟨ho,ho2,h1 hw⟩
  · refine concat_meets ⟨_,ho,rfl⟩ ⟨_,ho2,rfl⟩ noFill_tuple_add seq_tuple_add PySem.F.slot_tuple_add PySem.F.entry_tuple_add (PySem.F.args_tuple_add_2 _ _)
      (tuple_addW2 t b vs.toArray ws.toArray n n2 dd dd2 sl sl2 (by simpa using hv) (by simpa using hw) (by rw [List.size_toArray,List.size_toArray];exact hsz)) ⟨ho,ho2,?_⟩
    rw [e];exact h2 hw
noncomputable def sIx (n d:Nat):Option Int->Nat
 | none=>d
 | some v=>if v < 0 then (v+(n:Int)).toNat else min v.toNat n
theorem sIx_le (n d:Nat) (hd:d<=n) (o:Option Int):sIx n d o<=n:=by
 cases o with
 | none=>exact hd
 | some v =>
  show (if v < 0 then (v+(n:Int)).toNat else min v.toNat n)<=n
  by_cases hv:v < 0
  ·rw [if_pos hv];omega
  ·rw [if_neg hv];exact Nat.min_le_right _ _
theorem Nv (v:Int) (n d:Nat):(if v < 0 then max (v+(n:Int)) 0 else min v (n:Int))=((sIx n d (some v):Nat):Int):=by
 show (if v < 0 then max (v+(n:Int)) 0 else min v (n:Int))=(((if v < 0 then (v+(n:Int)).toNat else min v.toNat n):Nat):Int)
 by_cases hv:v < 0
 ·simp only [if_pos hv];omega
 ·simp only [if_neg hv];omega
theorem Mp (lo hi:Option Int) (n:Nat):Builtin.Slice.sliceAdjust lo hi 1 (n:Int)=(((sIx n 0 lo:Nat):Int),((sIx n n hi:Nat):Int)):=by
 have h1:¬ ((1:Int) < 0):=by omega
 unfold Builtin.Slice.sliceAdjust;simp only [h1,if_false];refine Prod.ext ?_ ?_
 ·cases lo with
  | none=>rfl
  | some v=>exact Nv v n 0
 ·cases hi with
  | none=>rfl
  | some v=>exact Nv v n n
theorem MD (i j:Nat):Builtin.Slice.slicePlaces (i:Int) (j:Int) 1=j - i:=by
 unfold Builtin.Slice.slicePlaces;have h1:(1:Int) > 0:=by omega
 simp only [h1,if_true,Int.ediv_one];split<;>omega
theorem EB {v:Value} {o:Option Int} {Q:Option Int->Shared->Prop} (p:IsPart v o) (h:Q o s):wpAny (model prog w) A (Builtin.Slice.slicePartIndex v) Q E s:=by
 cases p with
 | none=>exact slicePart_none h
 | int i t=>exact slicePart_int h
theorem sliceApplied_gen {sl:Addr} {vl vu:Value} {lo hi:Option Int} {n:Nat} {Q:Int×Int×Nat->Shared->Prop} (hs:s.heap.IsSliceOf sl vl vu .none) (pl:IsPart vl lo) (pu:IsPart vu hi)
    (h:Q (((sIx n 0 lo:Nat):Int),1,sIx n n hi - sIx n 0 lo) s):wpAny (model prog w) A (Builtin.Slice.sliceApplied (.ref sl) (pure (n:Int))) Q E s:=by
  obtain ⟨os,hos,hcs,hds⟩:=id hs;unfold Builtin.Slice.sliceApplied Builtin.Slice.sliceFields;refine wpAny_bind (wpAny_bind (wpAny_field hos hds (x:=vl) rfl (wpAny_bind (wpAny_field hos hds (x:=vu) rfl (wpAny_bind (wpAny_field hos hds (x:=.none) rfl (wpAny_pure ?_)))))));refine wpAny_bind (slicePart_none ?_);show wpAny _ _ (if ((1:Int) == 0)=true then _ else _) _ _ s;rw [if_neg (by decide)];refine wpAny_bind (EB pl (wpAny_bind (EB pu (wpAny_bind (wpAny_pure ?_)))));show wpAny _ _ (match Builtin.Slice.sliceAdjust lo hi 1 (n:Int) with | (lo,hi)=>pure (lo,(1:Int),Builtin.Slice.slicePlaces lo hi 1)) _ _ s;rw [Mp lo hi n];show wpAny _ _ (pure (((sIx n 0 lo:Nat):Int),(1:Int),Builtin.Slice.slicePlaces ((sIx n 0 lo:Nat):Int) ((sIx n n hi:Nat):Int) 1)) _ _ s;rw [MD];exact wpAny_pure h
theorem RY (xs:Array Value) (i k:Nat):((List.range k).filterMap fun (m:Nat)=>xs[((i:Int)+(m:Int) * 1).toNat]?).toArray=((xs.toList.drop i).take k).toArray:=by
 have e:(fun (m:Nat)=>xs[((i:Int)+(m:Int) * 1).toNat]?)=fun m=>xs[i+m]?:=by
  funext m;have:((i:Int)+(m:Int) * 1).toNat=i+m:=by omega
  rw [this]
 rw [e];have:=pick_run xs i k;rw [List.filterMap_map] at this;have e2:((fun x=>xs[x]?)∘fun x=>i+x)=fun m=>xs[i+m]?:=rfl
 rw [e2] at this;rw [this]
theorem getItem_tuple_cut {t sl:Addr} {items:Array Value} {vl vu:Value} {lo hi:Option Int} {Q:Value->Shared->Prop} (ht:IsTup s.heap t items) (hs:s.heap.IsSliceOf sl vl vu .none) (pl:IsPart vl lo) (pu:IsPart vu hi)
    (hw:¬ (sIx items.size 0 lo=0/\sIx items.size items.size hi=items.size))
    (h:Q (.ref s.heap.objs.size) { s with heap:=s.heap.push { cls:=.type "tuple", data:=.seq ((items.toList.drop (sIx items.size 0 lo)).take (sIx items.size items.size hi - sIx items.size 0 lo)).toArray } })
    (hsz:items.size<=sizeLine):wpAny (model prog w) A (getItem (.ref t) (.ref sl)) Q E s:=by
  have htake:sizeOk (.seq ((items.toList.drop (sIx items.size 0 lo)).take (sIx items.size items.size hi - sIx items.size 0 lo)).toArray):=by
    show ((items.toList.drop (sIx items.size 0 lo)).take (sIx items.size items.size hi - sIx items.size 0 lo)).toArray.size<=sizeLine;rw [List.size_toArray,List.length_take,List.length_drop,Array.length_toList];omega
  have hj:sIx items.size items.size hi<=items.size:=sIx_le _ _ (Nat.le_refl _) hi;obtain ⟨os,hos,hcs,hds⟩:=id hs
  have hTs:s.TypeIs (.ref sl) "slice" := ⟨os,hos,hcs⟩
  unfold getItem
  try with_reducible refine wpAny_holding ?_
  first | refine wpAny_bind (wpAny_pure ?_) | skip
  refine wpAny_bind (wpAny_sequenceKey ht.typeIs (by decide) ?_)
  refine wpAny_bind (wpAny_callSpecial?_slot (name:=Str.ofString "__getitem__") ht.typeIs PyProof.Rows.slot_tuple_getitem
    (wpAny_call_entry PyProof.Rows.slot_tuple_getitem ht.typeIs entry_tuple_getitem ?_ (args_tuple_getitem _ _)))
  show wpAny _ _ (Builtin.Tuple.tupleItemsOf (.ref t) >>= _) _ _ s;refine wpAny_bind (tupleItemsOf_ ht ?_);refine wpAny_bind (wpAny_typeOf hTs ?_);rw [if_pos (by decide)];refine wpAny_bind (sliceApplied_gen hs pl pu ?_);have hno:¬ ((((sIx items.size 0 lo:Nat):Int) == 0 && (1:Int) == 1 && (sIx items.size items.size hi - sIx items.size 0 lo) == items.size)=true):=by
    intro q;rw [Bool.and_eq_true,Bool.and_eq_true] at q;have q1:((sIx items.size 0 lo:Nat):Int)=0:=eq_of_beq q.1.1;have q2:sIx items.size items.size hi - sIx items.size 0 lo=items.size:=eq_of_beq q.2;exact hw ⟨by omega,by omega⟩
  show wpAny _ _ (if (((sIx items.size 0 lo:Nat):Int) == 0 && (1:Int) == 1 && (sIx items.size items.size hi - sIx items.size 0 lo) == items.size)=true then _ else _) _ _ s;rw [if_neg hno,RY]
  first
    | exact wpAny_bind (m:=Builtin.Tuple.tupleExact _) (wpAny_newObj_type (wpAny_pure ⟨_,rfl,wpAny_pure h⟩) htake)
    | exact wpAny_bind (m:=Builtin.Tuple.tupleExact _) (wpAny_newObj_type (wpAny_bind (wpAny_pure (wpAny_pure ⟨_,rfl,wpAny_pure h⟩))) htake)
    | exact wpAny_bind (wpAny_bind (m:=Builtin.Tuple.tupleExact _) (wpAny_newObj_type (wpAny_pure (wpAny_pure ⟨_,rfl,wpAny_pure h⟩)) htake))
    | exact wpAny_bind (wpAny_bind (m:=Builtin.Tuple.tupleExact _) (wpAny_newObj_type (wpAny_pure ⟨_,rfl,wpAny_pure h⟩) htake))
end
end HT
namespace L2
open PySem PySem.Spec PyProof.Rows
abbrev TO:=St->Hp->(Option Int->Hp->Prop)->Prop
def PO (X:Cx) (e:Option Expr) (t:TO):Prop:=
 ∀ (pins:List (Addr×Obj)) (s:Shared) (σ:St) (H:Hp) (Q:Option Int->Hp->Prop),Inv X pins σ H s->t σ H Q ->
  wpAny (model X.prog X.w) X.A (evalPart e X.env) (fun u s'=>∃ o H',Inv X pins σ H' s'/\IsPart u o/\Q o H') X.xe s
abbrev UU:TO:=fun _ H Q=>Q none H
abbrev bt (t:TE):TO:=fun σ H Q=>t σ H fun x H1=>∃ i,x=.int i/\Q (some i) H1
theorem MU {ns:List Int}:∀ {us:List Value},AD (ns.map V.int) us->IntsAre us ns:=by
 induction ns with
 | nil=>intro us r;rw [List.map_nil] at r;cases r;exact .nil
 | cons n ns ih =>
  intro us r;rw [List.map_cons] at r;cases r with
  | cons r1 r2 =>
   obtain ⟨t,e⟩:=r1;subst e;exact .cons n t (ih r2)
section
variable {X:Cx} {e:Expr} {te:TE} {lo hi:Option Expr} {tl th:TO} {pos p2:Pos}
theorem VJ:PO X none UU:=by
 intro pins s σ H Q I h;rw [evalPart_none];exact wpAny_pure ⟨none,H,I,.none,h⟩
theorem VI (h:PE X e te):PO X (some e) (bt te):=by
 intro pins s σ H Q I hw;rw [evalPart_some];refine AZ (h pins s σ H _ I hw) fun u s1 ⟨x,H1,I1,r1,q1⟩=>?_
 obtain ⟨i,rfl,q⟩:=q1;obtain ⟨t,rfl⟩:=r1;exact ⟨some i,H1,I1,.int i t,q⟩
def Py (X:Cx) (r:V->Option Int->Option Int->Hp->VK->Prop):Prop:=
 ∀ (pins:List (Addr×Obj)) (s:Shared) (σ:St) (H:Hp) (x:V) (v vl vu:Value) (lo hi:Option Int) (sl:Addr) (Q:VK),Inv X pins σ H s->RelV x v->s.heap.IsSliceOf sl vl vu .none->IsPart vl lo->IsPart vu hi->r x lo hi H Q ->
  ∃ T id,typeLookup (.type T) "__getitem__" = pure (some (.builtin id))/\s.TypeIs v T/\wpAny (model X.prog X.w) X.A (getItem v (.ref sl)) (EP X pins σ Q) X.xe s
theorem Py.or {r r':V->Option Int->Option Int->Hp->VK->Prop} (h:Py X r) (h':Py X r'):Py X (fun x lo hi H Q=>r x lo hi H Q\/r' x lo hi H Q):=by
 intro pins s σ H x v vl vu lo hi sl Q I rx hs pl pu q;rcases q with q | q
 ·exact h pins s σ H x v vl vu lo hi sl Q I rx hs pl pu q
 ·exact h' pins s σ H x v vl vu lo hi sl Q I rx hs pl pu q
abbrev iC (r:V->Option Int->Option Int->Hp->VK->Prop) (te:TE) (tl th:TO):TE:=fun σ H Q=>te σ H fun x H1=>tl σ H1 fun l H2=>th σ H2 fun u H3=>r x l u H3 Q
theorem Rb {r:V->Option Int->Option Int->Hp->VK->Prop} (hr:Py X r) (he:PE X e te) (hl:PO X lo tl) (hu:PO X hi th):PE X (.Subscript e (.Slice lo hi none p2) pos) (iC r te tl th):=by
 intro pins s σ H Q I h;refine Subscript_ (AZ (he pins s σ H _ I h) fun v s1 ⟨x,H1,I1,r1,q1⟩=>?_);refine wpAny_Slice (AZ (hl pins s1 σ H1 _ I1 q1) fun vl s2 ⟨l,H2,I2,pl,q2⟩=>AZ (hu pins s2 σ H2 _ I2 q2) fun vu s3 ⟨u,H3,I3,pu,q3⟩=>?_);rw [evalPart_none];refine wpAny_pure ?_
 have I4:Inv X pins σ H3 { s3 with heap:=s3.heap.push { cls:=.type "slice", data:=.fields #[vl,vu,.none] } }:=I3.kept (t':=s3.toks) fun b ob q=>Heap.get?_push_of_some _ q
 obtain ⟨T,id,hT,ht,hg⟩:=hr pins { s3 with heap:=s3.heap.push { cls:=.type "slice", data:=.fields #[vl,vu,.none] } } σ H3 x v vl vu l u s3.heap.objs.size Q I4 r1 (Heap.IsSliceOf.new ..) pl pu q3
 show wpAny (model X.prog X.w) X.A (subscriptTail e (.Slice lo hi none p2) v (.ref s3.heap.objs.size)) (EP X pins σ Q) X.xe { s3 with heap:=s3.heap.push { cls:=.type "slice", data:=.fields #[vl,vu,.none] } }
 exact tail_any (ops:=[.ref s3.heap.objs.size,v]) ht hT hg (by with_unfolding_all rfl)
def Ei (xs:List V) (lo hi:Option Int):List V:=(xs.drop (HT.sIx xs.length 0 lo)).take (HT.sIx xs.length xs.length hi - HT.sIx xs.length 0 lo)
theorem FW (xs:List V) (lo hi:Option Int):(Ei xs lo hi).length<=xs.length:=by
 unfold Ei;rw [List.length_take,List.length_drop];omega
def cZ (K:W.Frag):V->Option Int->Option Int->Hp->VK->Prop:=fun x lo hi H Q=>∃ a xs,x=.ref a/\Ds K H a xs /\
 ¬ (HT.sIx xs.length 0 lo=0/\HT.sIx xs.length xs.length hi=xs.length)/\∀ p,H p=none->Q (.ref p) (upd H p (.tup (Ei xs lo hi)))
theorem YX:Py X (cZ X.K):=by
 intro pins s σ H x v vl vu lo hi sl Q I rx hs pl pu h;obtain ⟨a,xs,rfl,hx,hw,q⟩:=h;cases rx;obtain ⟨its,r,ht,hz⟩:=I.tuple hx;have hlen:its.toArray.size=xs.length:=by rw [List.size_toArray];exact r.length.symm
 refine ⟨"tuple", _,PyProof.Rows.slot_tuple_getitem.lookup,ht.typeIs,?_⟩
 refine HT.getItem_tuple_cut ht hs pl pu (by rw [hlen];exact hw) ?_ (by rw [hlen];exact hz);rw [hlen];refine ⟨.ref s.heap.objs.size,_,I.laid (t':=s.toks) (o:=.tup (Ei xs lo hi)) (fun b ob q=>Heap.get?_push_of_some _ q) (Nat.le_refl _) ?_,rfl,q _ (I.hok.fresh (Nat.le_refl _))⟩;exact ⟨Nat.le_trans (FW xs lo hi) hz,_,(r.drop (HT.sIx xs.length 0 lo)).take (HT.sIx xs.length xs.length hi - HT.sIx xs.length 0 lo),Fh.new _ _⟩
def XW (K:W.Frag):R2:=fun x y H Q=>∃ a b xs ys,x=.ref a/\y=.ref b/\Ds K H a xs/\Ds K H b ys/\xs≠[]/\xs.length+ys.length<=sizeLine /\
 (ys=[]->Q (.ref a) H)/\(ys≠[]->∀ p,H p=none->Q (.ref p) (upd H p (.tup (xs++ys))))
theorem AD.nil_iff {xs:List V} {us:List Value} (r:AD xs us):us=[]↔xs=[]:=by
 cases r with
 | nil=>simp
 | cons _ _=>simp
theorem VX:CN X (binaryOp .Add) (XW X.K):=by
 intro pins s σ H x y v u Q I rx ry h;obtain ⟨a,b,xs,ys,rfl,rfl,ha,hb,hx,hz,q1,q2⟩:=h;cases rx;cases ry;obtain ⟨its,r1,p1,_⟩:=I.tuple ha;obtain ⟨its2,r2,p2,_⟩:=I.tuple hb;refine HT.cat_tup p1 p2 (fun z=>hx (r1.nil_iff.mp z)) (fun z=>⟨.ref a,H,I,rfl,q1 (r2.nil_iff.mp z)⟩) (fun z=>?_) (by rw [<- r1.length,<- r2.length];exact hz);refine ⟨.ref s.heap.objs.size,_,I.laid (t':=s.toks) (o:=.tup (xs++ys)) (fun b ob q=>Heap.get?_push_of_some _ q) (Nat.le_refl _) ?_,rfl,q2 (fun w=>z (r2.nil_iff.mpr w)) _ (I.hok.fresh (Nat.le_refl _))⟩;exact ⟨by rw [List.length_append];exact hz,_,r1.append r2,Fh.new _ _⟩
end
noncomputable def MS (n:Nat) (i:Int):Option Nat:=if 0<=i then (if i < n then some i.toNat else none) else if -(n:Int)<=i then some (i+n).toNat else none
def EK {α:Type} (xs:List α) (i:Int):Option α:=(MS xs.length i).bind fun j=>xs[j]?
theorem Nc {n:Nat} {i:Int} {j:Nat} (h:MS n i=some j):seqIndex? i n=some j/\j < n/\-(n:Int)<=i/\i < n:=by
 unfold MS at h
 by_cases h0:0<=i
 ·rw [if_pos h0] at h
  by_cases h1:i < n
  ·rw [if_pos h1] at h;have e:i.toNat=j:=Option.some.inj h;exact ⟨by rw [seqIndex_of h0 h1,e],by omega,by omega,h1⟩
  ·rw [if_neg h1] at h;cases h
 ·rw [if_neg h0] at h
  by_cases h1:-(n:Int)<=i
  ·rw [if_pos h1] at h;have e:(i+n).toNat=j:=Option.some.inj h;exact ⟨by rw [seqIndex_neg (by omega) h1,e],by omega,h1,by omega⟩
  ·rw [if_neg h1] at h;cases h
theorem Jt {α:Type} {xs:List α} {i:Int} {v:α} (h:EK xs i=some v):∃ j,seqIndex? i xs.length=some j/\xs[j]?=some v/\j < xs.length/\-(xs.length:Int)<=i/\i < xs.length:=by
 unfold EK at h;cases e:MS xs.length i with
 | none=>rw [e] at h;cases h
 | some j =>
  rw [e] at h;obtain ⟨h1,h2,h3,h4⟩:=Nc e;exact ⟨j,h1,h,h2,h3,h4⟩
theorem atI_nat {α:Type} {xs:List α} {j:Nat} {v:α} (h:xs[j]?=some v):EK xs (j:Int)=some v:=by
 have hj:j < xs.length:=(List.getElem?_eq_some_iff.mp h).1;have e:MS xs.length (j:Int)=some j:=by
  unfold MS;rw [if_pos (by omega),if_pos (by omega)];simp
 unfold EK;rw [e];exact h
def OD (b:Expr):Prop:=∀ o i,subscripted b false o i=operate [o,i] (getItem o i)
def Pz (X:Cx) (r:R2):Prop:=
 ∀ (value slice:Expr) (pins:List (Addr×Obj)) (s:Shared) (σ:St) (H:Hp) (x y:V) (v u:Value) (Q:VK),Inv X pins σ H s->RelV x v->RelV y u->r x y H Q ->
  subscripted slice false v u=operate [v,u] (getItem v u)->wpAny (model X.prog X.w) X.A (subscriptTail value slice v u) (EP X pins σ Q) X.xe s
def bT (X:Cx) (id:String) (r:V->List V->Hp->VK->Prop):Prop:=
 ∀ (pins:List (Addr×Obj)) (s:Shared) (σ:St) (H:Hp) (x:V) (xs:List V) (v:Value) (us:List Value) (Q:VK),Inv X pins σ H s->RelV x v->AD xs us->r x xs H Q ->
  wpAny (model X.prog X.w) X.A (call (.builtin id) (v::us)) (EP X pins σ Q) X.xe s
section
variable {X:Cx} {a b:Expr} {ta tb:TE} {pos:Pos}
theorem Pz.or {r r':R2} (h:Pz X r) (h':Pz X r'):Pz X (fun x y H Q=>r x y H Q\/r' x y H Q):=by
 intro value slice pins s σ H x y v u Q I rx ry q hs;rcases q with q | q
 ·exact h value slice pins s σ H x y v u Q I rx ry q hs
 ·exact h' value slice pins s σ H x y v u Q I rx ry q hs
theorem dJ {r:R2} (hr:Pz X r) (ha:PE X a ta) (hb:PE X b tb) (hs:OD b):PE X (.Subscript a b pos) (fN r ta tb):=by
 intro pins s σ H Q I h;exact Subscript_ (bE ha hb I h fun v u s2 x y H2 I2 rx ry q=>hr a b pins s2 σ H2 x y v u Q I2 rx ry q (hs _ _))
def cu (K:W.Frag):R2:=fun x y H Q=>∃ p xs i v,x=.ref p/\y=.int i/\Bq K H p xs/\EK xs i=some v/\Q v H
def cn (K:W.Frag):R2:=fun x y H Q=>∃ p xs i v,x=.ref p/\y=.int i/\Ds K H p xs/\EK xs i=some v/\Q v H
def cq:R2:=fun x y H Q=>∃ z i c,x=.str z/\y=.int i/\z.length<=sizeLine/\EK z.cps.toList i=some c/\Q (.str ⟨#[c]⟩) H
theorem Vo:Pz X (cu X.K):=by
  intro value slice pins s σ H x y v u Q I rx ry h hs;obtain ⟨p,xs,i,z,rfl,rfl,hq,he,q⟩:=h;cases rx;obtain ⟨t,rfl⟩:=ry;obtain ⟨its,r,pl,hz⟩:=I.list hq;obtain ⟨j,h1,h2,h3,h4,h5⟩:=Jt he;obtain ⟨w,ew,rw'⟩:=r.get h2;have hl:=r.length;have hn:=FK;have fin:EP X pins σ Q w s:=⟨z,H,I,rw',q⟩
  by_cases h0:0<=i
  · have hj:i.toNat=j:=by
      rw [seqIndex_of h0 h5] at h1;exact Option.some.inj h1
    exact item_listR pl.isList h0 (by omega) (by rw [hj];simpa using ew) fin hs
  · have hj:(i+(its.toArray.size:Int)).toNat=j:=by
      rw [seqIndex_neg (by omega) h4] at h1;rw [List.size_toArray,<- hl];exact Option.some.inj h1
    exact subscriptTail_builtinR (x:=w) pl.isList.typeIs slot_list_getitem.lookup
      (wpAny_getItem_list_neg (Q:=fun r s'=>r=w/\EP X pins σ Q r s') pl.isList (by omega) (by rw [List.size_toArray]<;>omega) (by omega) (by rw [hj];simpa using ew) ⟨rfl,fin⟩) hs
theorem aD:Pz X (cn X.K):=by
 intro value slice pins s σ H x y v u Q I rx ry h hs;obtain ⟨p,xs,i,z,rfl,rfl,hq,he,q⟩:=h;cases rx;obtain ⟨t,rfl⟩:=ry;obtain ⟨its,r,pl,hz⟩:=I.tuple hq;obtain ⟨j,h1,h2,h3,h4,h5⟩:=Jt he;obtain ⟨w,ew,rw'⟩:=r.get h2;have hl:=r.length;have hn:=FK;have fin:EP X pins σ Q w s:=⟨z,H,I,rw',q⟩;exact subscriptTail_builtinR (x:=w) pl.typeIs slot_tuple_getitem.lookup
  (getItem_tuple (j:=j) (Q:=fun r s'=>r=w/\EP X pins σ Q r s') pl (by omega) (by omega) (by rw [List.size_toArray,<- hl];exact h1) (by simpa using ew) ⟨rfl,fin⟩) hs
theorem aE:Pz X cq:=by
 intro value slice pins s σ H x y v u Q I rx ry h hs;obtain ⟨z,i,c,rfl,rfl,hz,he,q⟩:=h;obtain ⟨t,rfl⟩:=rx;obtain ⟨t',rfl⟩:=ry;obtain ⟨j,h1,h2,h3,h4,h5⟩:=Jt he;have hl:z.cps.toList.length=z.length:=by simp [Str.length]
 rw [hl] at h1 h4 h5;have hn:=FK;exact tail_any (typeIs_str s z t) slot_str_getitem.lookup (getItem_str (c:=c) (by
  have e1:decide (i < -(2 ^ 63:Int))=false:=decide_eq_false (by omega);have e2:decide (i >= 2 ^ 63)=false:=decide_eq_false (by omega);rw [e1,e2,Bool.or_false]) (by rw [h1];simpa using h2) ⟨.str ⟨#[c]⟩,H,I.tok _,⟨_,rfl⟩,q⟩) hs
def Yp (K:W.Frag):R2:=fun x y H Q=>cu K x y H Q\/cn K x y H Q\/cq x y H Q
theorem aF:Pz X (Yp X.K):=Vo.or (aD.or aE)
theorem MN (its:List Value) (n j:Nat) (u:Value):Obj.mapSeq (·.setIfInBounds j u) { cls:=.type "list", data:=.seq its.toArray n }={ cls:=.type "list", data:=.seq (its.set j u).toArray n }:=by
 simp [Obj.mapSeq]
theorem Inv.lst {pins:List (Addr×Obj)} {σ:St} {H:Hp} {s:Shared} {p:Addr} {xs:List V} (I:Inv X pins σ H s) (h:H p=some (.lst xs)) :
    ∃ (its:List Value) (n:Nat),AD xs its/\s.heap.get? p=some { cls:=.type "list", data:=.seq its.toArray n }/\xs.length<=sizeLine:=by
  obtain ⟨z,its,n,r,e⟩:=I.hok p _ h;exact ⟨its,n,r,e,z⟩
theorem Inv.lstUpd {pins:List (Addr×Obj)} {σ:St} {H:Hp} {s:Shared} {p:Addr} {xs ys:List V} {its its':List Value} {n n':Nat} {f:Obj->Obj} (I:Inv X pins σ H s) (h:H p=some (.lst xs))
    (ho:s.heap.get? p=some { cls:=.type "list", data:=.seq its.toArray n }) (hf:f { cls:=.type "list", data:=.seq its.toArray n }={ cls:=.type "list", data:=.seq its'.toArray n' }) (r:AD ys its') (hz:ys.length<=sizeLine) (t:Nat) :
    Inv X pins σ (upd H p (.lst ys)) { s with heap:=s.heap.update p f,toks:=t }:=by
  have e:(s.heap.update p f).get? p=some { cls:=.type "list", data:=.seq its'.toArray n' }:=by
    rw [Heap.get?_update_self f ho (by rw [hf]<;>rfl),hf]
  refine I.write (x:=p) (e:=p) (by rw [h];trivial) (.inl rfl) (fun b u hb q=>(Heap.get?_update_other _ _ (Ne.symm hb)).trans q) ⟨_,e⟩ ?_;exact ⟨hz,its',n',r,e⟩
def RD:V->V->V->Hp->(Hp->Prop)->Prop:=fun o i v H Q=>∃ p xs k j,o=.ref p/\i=.int k/\H p=some (.lst xs)/\MS xs.length k=some j/\Q (upd H p (.lst (xs.set j v)))
theorem set_list:Wy X RD:=by
  intro pins s σ H o i v ov iv u Q I ro ri rv h;obtain ⟨p,xs,k,j,rfl,rfl,hp,hj,q⟩:=h;cases ro;obtain ⟨t,rfl⟩:=ri;obtain ⟨its,n,r,ho,hz⟩:=I.lst hp;obtain ⟨h1,h2,h3,h4⟩:=Nc hj;have hl:=r.length;have hn:=FK;have I':Inv X pins σ (upd H p (.lst (xs.set j v))) { s with heap:=s.heap.update p (Obj.mapSeq (·.setIfInBounds j u)) }:=
    I.lstUpd hp ho (MN its n j u) (r.set rv j) (by rw [List.length_set];exact hz) s.toks
  by_cases h0:0<=k
  · have hk:k.toNat=j:=by
      rw [seqIndex_of h0 h4] at h1;exact Option.some.inj h1
    exact W.ki_setAt ho h0 (by omega) (by rw [List.size_toArray,<- hl];exact h4) (by rw [hk];exact ⟨_,I',q⟩)
  · have hk:(k+(its.toArray.size:Int)).toNat=j:=by
      rw [seqIndex_neg (by omega) h3] at h1;rw [List.size_toArray,<- hl];exact Option.some.inj h1
    exact W.ki_setBack ho (by omega) (by rw [List.size_toArray,<- hl];exact h3) (by omega) (by rw [hk];exact ⟨_,I',q⟩)
theorem Iq (lo hi:Option Int) (n:Nat):(sliceBounds lo hi none n).1=((HT.sIx n 0 lo:Nat):Int)/\(sliceBounds lo hi none n).2.1=((HT.sIx n n hi:Nat):Int)/\(sliceBounds lo hi none n).2.2=1:=by
 refine ⟨?_,?_,rfl⟩
 ·cases lo with
  | none=>simp [sliceBounds,HT.sIx]
  | some i =>
   simp only [sliceBounds,HT.sIx,Option.getD_none,show (1:Int) > 0 by decide,if_true]
   by_cases h:i < 0
   ·simp only [h,if_true]<;>omega
   ·simp only [h,if_false]<;>omega
 ·cases hi with
  | none=>simp [sliceBounds,HT.sIx]
  | some i =>
   simp only [sliceBounds,HT.sIx,Option.getD_none,show (1:Int) > 0 by decide,if_true]
   by_cases h:i < 0
   ·simp only [h,if_true]<;>omega
   ·simp only [h,if_false]<;>omega
theorem HV (its:List Value) (lo hi:Option Int):slicePick its.toArray lo hi none=((its.drop (HT.sIx its.length 0 lo)).take (HT.sIx its.length its.length hi - HT.sIx its.length 0 lo)).toArray:=by
 obtain ⟨h1,h2,h3⟩:=Iq lo hi its.toArray.size;unfold slicePick;rw [h1,h2,h3];simp only [sliceRange_one,pick_run,List.size_toArray]<;>rfl
def cc (K:W.Frag):V->Option Int->Option Int->Hp->VK->Prop:=fun x lo hi H Q=>∃ a xs,x=.ref a/\Bq K H a xs/\∀ p,H p=none->Q (.ref p) (upd H p (.lst (Ei xs lo hi)))
theorem Ud:Py X (cc X.K):=by
 intro pins s σ H x v vl vu lo hi sl Q I rx hs pl pu h;obtain ⟨a,xs,rfl,hx,q⟩:=h;cases rx;obtain ⟨its,r,ht,hz⟩:=I.list hx;have hlen:=r.length
 refine ⟨"list", _,slot_list_getitem.lookup,ht.isList.typeIs,?_⟩
 refine wpAny_getItem_list_slice ht.isList hs pl pu .none (by simp) ?_ (by rw [List.size_toArray]<;>omega);rw [HV,<- hlen];refine ⟨.ref s.heap.objs.size,_,I.laid (t':=s.toks) (o:=.lst (Ei xs lo hi)) (fun b ob q=>Heap.get?_push_of_some _ q) (Nat.le_refl _) ?_,rfl,q _ (I.hok.fresh (Nat.le_refl _))⟩;exact ⟨Nat.le_trans (FW xs lo hi) hz,_,0,(r.drop (HT.sIx xs.length 0 lo)).take (HT.sIx xs.length xs.length hi - HT.sIx xs.length 0 lo),Heap.get?_push_size _ rfl⟩
noncomputable def Ee:V->Bool
 | .non=>true
 | .bl _=>true
 | .int _=>true
 | .str _=>true
 | _=>false
noncomputable def eqV:V->V->Bool
 | .non,.non=>true
 | .bl a,.bl b=>a == b
 | .bl a,.int b=>(if a then 1 else 0) == b
 | .int a,.bl b=>a == (if b then 1 else 0)
 | .int a,.int b=>a == b
 | .str a,.str b=>a == b
 | _,_=>false
theorem aU {A:Around} {s:Shared} {y x:V} {u v:Value} (ry:RelV y u) (rx:RelV x v) (fy:Ee y=true) (fx:Ee x=true):SeqAt.EqAt A s u v (eqV y x):=by
 cases y with
 | non =>
  cases ry;cases x with
  | non=>cases rx;exact SeqAt.EqAt.same _
  | bl b=>cases rx;exact SeqAt.EqAt.none_bool b
  | int b=>obtain ⟨t,rfl⟩:=rx;exact SeqAt.EqAt.none_int b t
  | str b=>obtain ⟨t,rfl⟩:=rx;exact SeqAt.EqAt.none_str b t
  | _=>exact absurd (show false=true from fx) Bool.false_ne_true
 | bl a =>
  cases ry;cases x with
  | non=>cases rx;exact SeqAt.EqAt.bool_none a
  | bl b=>cases rx;exact SeqAt.EqAt.bool_bool a b
  | int b=>obtain ⟨t,rfl⟩:=rx;exact SeqAt.EqAt.bool_int a b t
  | str b=>obtain ⟨t,rfl⟩:=rx;exact SeqAt.EqAt.bool_str a b t
  | _=>exact absurd (show false=true from fx) Bool.false_ne_true
 | int a =>
  obtain ⟨t',rfl⟩:=ry;cases x with
  | non=>cases rx;exact SeqAt.EqAt.int_none a t'
  | bl b=>cases rx;exact SeqAt.EqAt.int_bool a t' b
  | int b=>obtain ⟨t,rfl⟩:=rx;exact SeqAt.EqAt.int_int a t' b t
  | str b=>obtain ⟨t,rfl⟩:=rx;exact SeqAt.EqAt.int_str a t' b t
  | _=>exact absurd (show false=true from fx) Bool.false_ne_true
 | str a =>
  obtain ⟨t',rfl⟩:=ry;cases x with
  | non=>cases rx;exact SeqAt.EqAt.str_none a t'
  | bl b=>cases rx;exact SeqAt.EqAt.str_bool a t' b
  | int b=>obtain ⟨t,rfl⟩:=rx;exact SeqAt.EqAt.str_int a t' b t
  | str b=>obtain ⟨t,rfl⟩:=rx;exact SeqAt.EqAt.str_str a t' b t
  | _=>exact absurd (show false=true from fx) Bool.false_ne_true
 | _=>exact absurd (show false=true from fy) Bool.false_ne_true
theorem JH:CN X (compareOp .NotIn) (fun x y H Q=>∃ i j,x=.str i/\y=.str j/\Q (.bl (!(!(Builtin.Str.occurrences j i 0 j.length 1).isEmpty))) H):=by
 intro pins s σ H x y v u Q I rx ry h;obtain ⟨i,j,rfl,rfl,q⟩:=h;obtain ⟨t,rfl⟩:=rx;obtain ⟨t',rfl⟩:=ry;exact notIn_str ⟨.bl _,H,I,rfl,q⟩
theorem Jk:BC X (.type "list") (fun xs H Q=>∃ p ys,xs=[.ref p]/\(Bq X.K H p ys\/Ds X.K H p ys)/\∀ l,H l=none->Q (.ref l) (upd H l (.lst ys))):=by
  intro pins s σ H xs us Q I r h;obtain ⟨p,ys,rfl,hq,q⟩:=h;obtain ⟨u,rfl,rx⟩:=vals1 r;cases rx;have fin:∀ (its:List Value),AD ys its->ys.length<=sizeLine->∀ (h':Heap) (c':Nat),(∀ b o',s.heap.get? b=some o'->h'.get? b=some o') ->
      h'.get? s.heap.objs.size=some { cls:=.type "list", dict:=none,data:=.seq its.toArray c',slots:=#[] }->EP X pins σ Q (.ref s.heap.objs.size) { s with heap:=h' }:=fun its r' hz h' c' kp e =>
    ⟨.ref s.heap.objs.size,_,I.laid (t':=s.toks) kp (Nat.le_refl _) (show Al X.prog X.w _ h' _ (.lst ys) from ⟨hz,its,c',r',e⟩),rfl,q _ (I.hok.fresh (Nat.le_refl _))⟩
  rcases hq with hq | hq
  · obtain ⟨its,r',pl,hz⟩:=I.list hq;have hlen:=r'.length;obtain ⟨o,ho,hc,n,hd⟩:=pl.isList;exact call_list_seq p (.inl rfl) ho hc hd (fun h' c' kp e=>fin its r' hz h' c' kp e) (by simp only [List.size_toArray]<;>omega)
  · obtain ⟨its,r',pl,hz⟩:=I.tuple hq;have hlen:=r'.length;obtain ⟨o,ho,hc,n,hd⟩:=pl;exact call_list_seq p (.inr rfl) ho hc hd (fun h' c' kp e=>fin its r' hz h' c' kp e) (by simp only [List.size_toArray]<;>omega)
theorem Hd:BC X (.type "tuple") (fun xs H Q=>∃ p ys,xs=[.ref p]/\((Bq X.K H p ys/\∀ l,H l=none->Q (.ref l) (upd H l (.tup ys)))\/(Ds X.K H p ys/\Q (.ref p) H))):=by
 intro pins s σ H xs us Q I r h;obtain ⟨p,ys,rfl,h⟩:=h;obtain ⟨u,rfl,rx⟩:=vals1 r;cases rx;rcases h with ⟨hq,q⟩ | ⟨hq,q⟩
 ·obtain ⟨its,r',pl,hz⟩:=I.list hq;have hlen:=r'.length;refine call_tuple_list pl.isList (fun h' kp=>?_) (by simp only [List.size_toArray]<;>omega);have I1:Inv X pins σ H { s with heap:=h' }:=I.kept (t':=s.toks) kp
  have I2:Inv X pins σ (upd H h'.objs.size (.tup ys)) { s with heap:=h'.push { cls:=.type "tuple", data:=.seq its.toArray } }:=
   I1.laid (t':=s.toks) (fun b o e=>Heap.get?_push_of_some _ e) (Nat.le_refl _) (show Al X.prog X.w _ _ _ (.tup ys) from ⟨hz,its,r',Fh.new _ _⟩)
  exact ⟨.ref h'.objs.size,_,I2,rfl,q _ (I1.hok.fresh (Nat.le_refl _))⟩
 ·obtain ⟨its,r',pl,hz⟩:=I.tuple hq;exact call_tuple_same pl ⟨.ref p,H,I,rfl,q⟩
def fL (K:W.Frag) (T:String) (x:V) (H:Hp):Prop:=match x with
  | .str _=>T = "str"
  | .int _=>T = "int"
  | .ref p=>(T = "list" /\ ∃ xs,Bq K H p xs)\/(T = "tuple" /\ ∃ o,K.lookup p=some o/\o.cls=.type "tuple" /\ o.dict=none) \/
      (T = "dict" /\ ((∃ kvs,H p=some (.dK kvs))\/∃ kvs,H p=some (.dT kvs)))\/(T = "set" /\ ∃ S n,H p=some (.set S n))
  | _=>False
theorem QJ {pins:List (Addr×Obj)} {σ:St} {H:Hp} {s:Shared} {T:String} {x:V} {v:Value} (I:Inv X pins σ H s) (r:RelV x v) (ty:fL X.K T x H) :
    s.TypeIs v T/\∀ a,v=.ref a->∃ ob,s.heap.get? a=some ob/\ob.dict=none:=by
  cases x with
  | str z =>
    obtain ⟨t,rfl⟩:=r
    cases (show T = "str" from ty)
    exact ⟨typeIs_str s z t,fun _ e=>nomatch e⟩
  | int i =>
    obtain ⟨t,rfl⟩:=r
    cases (show T = "int" from ty)
    exact ⟨typeIs_int s i t,fun _ e=>nomatch e⟩
  | ref p =>
    cases r;rcases ty with ⟨rfl,xs,hq⟩ | ⟨rfl,o,hk,hc,hd⟩ | ⟨rfl,hk⟩ | ⟨rfl,S,n,hk⟩
    · obtain ⟨its,_,pl,_⟩:=I.list hq;refine ⟨pl.isList.typeIs,fun a e=>?_⟩;cases e;obtain ⟨o,n,e,c,hd,_⟩:=pl;exact ⟨o,e,hd⟩
    · refine ⟨⟨o,I.kIn p o hk,hc⟩,fun a e=>?_⟩;cases e;exact ⟨o,I.kIn _ o hk,hd⟩
    · have z:∃ o,s.heap.get? p=some o/\o.ExactDict:=by
        rcases hk with ⟨kvs,hk⟩ | ⟨kvs,hk⟩
        · obtain ⟨_,_,_,_,o,_,_,e,ex,_⟩:=I.hok p _ hk;exact ⟨o,e,ex⟩
        · obtain ⟨_,_,_,_,o,_,_,e,ex,_⟩:=I.hok p _ hk;exact ⟨o,e,ex⟩
      obtain ⟨o,e,ex⟩:=z;refine ⟨⟨o,e,ex.1⟩,fun a e2=>?_⟩;cases e2;exact ⟨o,e,ex.2.1⟩
    · obtain ⟨o,_,_,_,e,ex,_⟩:=I.hok p _ hk;refine ⟨⟨o,e,ex.1⟩,fun a e2=>?_⟩;cases e2;exact ⟨o,e,ex.2.1⟩
  | _=>exact False.elim ty
abbrev gJ (K:W.Frag) (T:String) (r:V->List V->Hp->VK->Prop) (to:TE):TE:=fun σ H Q=>to σ H fun x H1=>fL K T x H1/\r x [] H1 Q
abbrev cC (K:W.Frag) (T:String) (r:V->List V->Hp->VK->Prop) (to:TE) (t:TA):TE:=fun σ H Q=>to σ H fun x H1=>fL K T x H1/\t σ H1 fun xs H2=>r x xs H2 Q
variable {o e:Expr} {es:List Expr} {to:TE} {t:TA} {name:Str} {apos cpos:Pos} {T id:String} {r:V->List V->Hp->VK->Prop}
theorem Rh (pa:PlainAttrs T) (slot:Slot T name id) (hty:typeOf (.builtin id)=pure (.type "method_descriptor")) (hm:bT X id r) (ho:PE X o to)
    (hbase:attributeBase o name X.env (eval o X.env)=eval o X.env:=by rfl) (hline:(apos.endLine == cpos.line)=true:=by rfl):PE X (.Call (.Attribute o name apos) [] [] cpos) (gJ X.K T r to):=by
  intro pins s σ H Q I h;refine wpAny_Call_method0_late hbase hline (AZ (ho pins s σ H _ I h) fun v s1 ⟨x,H1,I1,r1,ty,q1⟩=>?_);obtain ⟨h1,h2⟩:=QJ I1 r1 ty;exact ⟨T,id,pa,slot,hty,h1,h2,Calls.callWith_builtin rfl (PySem.evalArgs_none (hm pins s1 σ H1 x [] v [] Q I1 r1 .nil q1))⟩
theorem XZ (pa:PlainAttrs T) (slot:Slot T name id) (hty:typeOf (.builtin id)=pure (.type "method_descriptor")) (hm:bT X id r) (ho:PE X o to) (ha:PA X (e::es) t)
    (hbase:attributeBase o name X.env (eval o X.env)=eval o X.env:=by rfl)
    (hfew:((backTo cpos (starEach (e::es) X.env)).all (fun x=>!x.1) && (backToKw cpos (keywordEach [] X.env)).all (fun x=>x.1.isSome)
      && decide ((e::es).length+([]:List Keyword).length+(if ([]:List Keyword).isEmpty then 0 else 1) < 30))=true:=by rfl)
    (hline:(apos.endLine == cpos.line)=true:=by rfl) (hs:starEach (e::es) X.env=(false,eval e X.env)::starEach es X.env:=by rfl) (hplain:(backTo cpos (starEach es X.env)).any (·.1)=false:=by rfl) :
    PE X (.Call (.Attribute o name apos) (e::es) [] cpos) (cC X.K T r to t):=by
  intro pins s σ H Q I h;refine wpAny_Call_method_late hbase hfew hline rfl (AZ (ho pins s σ H _ I h) fun v s1 ⟨x,H1,I1,r1,ty,q1⟩=>?_);obtain ⟨h1,h2⟩:=QJ I1 r1 ty;refine ⟨T,id,pa,slot,hty,h1,h2,?_⟩;have hA:=ha cpos pins s1 σ H1 _ I1 q1;rw [hs] at hA ⊢;refine Calls.callWith_builtin (by show (false || (backTo cpos (starEach es X.env)).any (·.1))=false;rw [hplain]<;>rfl) (Calls.evalArgs_plain ?_);exact AZ hA fun us s2 ⟨vs,H2,I2,r2,q2⟩=>hm pins s2 σ H2 x vs v us Q I2 r1 r2 q2
end
def YD (X:Cx) (id:String) (r:V->List V->Hp->VK->Prop):Prop:=
 ∀ (pins:List (Addr×Obj)) (s:Shared) (σ:St) (H:Hp) (x:V) (xs:List V) (v:Value) (us:List Value) (Q:VK),Inv X pins σ H s->RelV x v->AD xs us->r x xs H Q ->
  wpAny (model X.prog X.w) X.A (call (.builtin id) (v::us)) (EP X pins σ Q) X.xe s
theorem AD.one:∀ {x:V} {us:List Value},AD [x] us->∃ u,us=[u]/\RelV x u
 := by
 intro x us h;cases h with | cons r t=>cases t;exact ⟨_,rfl,r⟩
theorem AD.two:∀ {x y:V} {us:List Value},AD [x,y] us->∃ u v,us=[u,v]/\RelV x u/\RelV y v
 := by
 intro x y us h;cases h with | cons r t=>cases t with | cons q t=>cases t;exact ⟨_,_,rfl,r,q⟩
theorem AD.zero:∀ {us:List Value},AD [] us->us=[]
 | _,.nil=>rfl
theorem AD.dropLast {xs:List V} {us:List Value} (h:AD xs us):AD xs.dropLast us.dropLast:=by
 induction h with
 | nil=>exact .nil
 | cons r t ih =>
  cases t with
  | nil=>exact .nil
  | cons q t'=>exact .cons r ih
theorem AD.eraseIdx:∀ {xs:List V} {us:List Value} (i:Nat),AD xs us->AD (xs.eraseIdx i) (us.eraseIdx i)
 | _,_,_,.nil=>.nil
 | _,_,0,.cons _ t=>t
 | _,_,i+1,.cons r t=>.cons r (AD.eraseIdx i t)
theorem AD.rep {xs:List V} {us:List Value} (h:AD xs us):∀ k:Nat,AD (List.replicate k xs).flatten (List.replicate k us).flatten
 | 0=>.nil
 | k+1=>by
  rw [List.replicate_succ,List.replicate_succ,List.flatten_cons,List.flatten_cons];exact AD.append h (AD.rep h k)
theorem Mf {α:Type} (l:List α):l.eraseIdx (l.length - 1)=l.dropLast:=by
 induction l with
 | nil=>rfl
 | cons a r ih =>
  cases r with
  | nil=>rfl
  | cons b r =>
   have e:(a::b::r).length - 1=((b::r).length - 1)+1:=by
    have h1:(a::b::r).length=r.length+2:=rfl;have h2:(b::r).length=r.length+1:=rfl;omega
   rw [e,List.eraseIdx_cons_succ,ih]
   all_goals rfl
theorem IG {α:Type}:∀ (l:List α) (i:Nat),(l.eraseIdx i).length<=l.length
 | [],_=>Nat.le_refl _
 | _::_,0=>Nat.le_succ _
 | _::r,i+1=>Nat.succ_le_succ (IG r i)
theorem foldl_rep (its:List Value):∀ (k:Nat) (acc:List Value),
    List.foldl (fun x1 x2=>x1++x2) acc.toArray (List.replicate k its.toArray)=(acc++(List.replicate k its).flatten).toArray
  | 0,acc=>by simp
  | k+1,acc=>by
    have e:acc.toArray++its.toArray=(acc++its).toArray:=by simp
    have e2:(acc++its)++(List.replicate k its).flatten=acc++(List.replicate (k+1) its).flatten:=by
      rw [List.replicate_succ,List.flatten_cons,List.append_assoc]
    rw [<- e2,<- foldl_rep its k (acc++its),<- e,List.replicate_succ,List.foldl_cons]
section
variable {X:Cx} {pins:List (Addr×Obj)} {σ:St} {H:Hp} {s:Shared} {l b:Addr} {xs ys zs:List V}
theorem Inv.lset {its its':List Value} {n:Nat} {f:Array Value->Array Value} {t':Nat} (I:Inv X pins σ H s) (hH:H l=some (.lst xs))
    (e:s.heap.get? l=some { cls:=.type "list", data:=.seq its.toArray n }) (hf:f its.toArray=its'.toArray) (hv:AD ys its') (hz:ys.length<=sizeLine) :
    Inv X pins σ (upd H l (.lst ys)) { s with heap:=s.heap.update l (Obj.mapSeq f),toks:=t' }:=by
  have q:=PySem.IsL.update e f;rw [hf] at q;refine I.write (x:=l) (e:=l) (by rw [hH];exact trivial) (.inl rfl) (fun b' u hb hu=>(Heap.get?_update_other s.heap (Obj.mapSeq f) (Ne.symm hb)).trans hu) ⟨_,q⟩ ?_;exact ⟨hz,its',_,hv,q⟩
theorem Inv.lnew {its:List Value} {t':Nat} (I:Inv X pins σ H s) (hv:AD ys its) (hz:ys.length<=sizeLine) :
    Inv X pins σ (upd H s.heap.objs.size (.lst ys)) { s with heap:=s.heap.push { cls:=.type "list", data:=.seq its.toArray },toks:=t' }:=
  I.laid (fun _ _ q=>Heap.get?_push_of_some _ q) (Nat.le_refl _) ⟨hz,its,0,hv,Heap.get?_push_size _ rfl⟩
theorem Inv.fresh (I:Inv X pins σ H s):H s.heap.objs.size=none:=I.hok.fresh (Nat.le_refl _)
theorem Inv.lstM (I:Inv X pins σ H s) (hH:H l=some (.lst xs)):xs.length<=sizeLine/\∃ (its:List Value) (n:Nat),AD xs its/\xs.length=its.length/\s.heap.get? l=some { cls:=.type "list", data:=.seq its.toArray n }:=by
 obtain ⟨z,its,n,r,e⟩:=I.hok l _ hH;exact ⟨z,its,n,r,r.length,e⟩
theorem Ko {n:Nat} (h:n<=sizeLine):Builtin.List.listTooLong n=false:=by
 unfold Builtin.List.listTooLong;exact decide_eq_false (by omega)
end
section
variable {X:Cx}
def NT:V->List V->Hp->VK->Prop:=fun x vs H Q=>∃ l xs y,x=.ref l/\vs=[y]/\H l=some (.lst xs)/\xs.length < sizeLine/\Q .non (upd H l (.lst (xs++[y])))
theorem Os:YD X "list.append" NT:=by
 intro pins s σ H x vs v us Q I rx rv h;obtain ⟨l,xs,y,rfl,rfl,hH,hz,q⟩:=h;cases rx;obtain ⟨u,rfl,ru⟩:=rv.one;obtain ⟨z,its,n,r,hl,e⟩:=I.lstM hH;refine call_meets F.slot_list_append ⟨_,e,rfl⟩ F.entry_list_append (F.args_list_append_2 _ _) (PySem.list_append l its.toArray n u (by rw [List.size_toArray];omega)) ⟨e,?_⟩;refine ⟨.non,_,I.lset (its':=its++[u]) hH e (by simp) (r.append (.cons ru .nil)) ?_,rfl,q⟩;rw [List.length_append,List.length_singleton];omega
def NS:V->List V->Hp->VK->Prop:=fun x vs H Q=>∃ l b xs zs,x=.ref l/\vs=[.ref b]/\H l=some (.lst xs)/\H b=some (.lst zs)/\xs.length+zs.length<=sizeLine/\Q .non (upd H l (.lst (xs++zs)))
theorem Oq:YD X "list.extend" NS:=by
 intro pins s σ H x vs v us Q I rx rv h;obtain ⟨l,b,xs,zs,rfl,rfl,hH,hB,hz,q⟩:=h;cases rx;obtain ⟨u,rfl,ru⟩:=rv.one;cases ru;obtain ⟨z,its,n,r,hl,e⟩:=I.lstM hH;obtain ⟨z2,its2,n2,r2,hl2,e2⟩:=I.lstM hB;have hsz:its.toArray.size+its2.toArray.size<=sizeLine:=by rw [List.size_toArray,List.size_toArray];omega
 have hlong:¬ (!its.toArray.isEmpty && Builtin.List.listTooLong (its.toArray.size+its2.toArray.size))=true:=by
  rw [Ko hsz,Bool.and_false];exact Bool.false_ne_true
 refine call_meets F.slot_list_extend ⟨_,e,rfl⟩ F.entry_list_extend (F.args_list_extend_2 _ _)
  (AutoSeq1.list_extend_list_list_0 l its.toArray n b its2.toArray n2 hlong (by rw [List.size_toArray];omega) (by omega)) ⟨e,e2,?_⟩
 refine ⟨.non,_,I.lset (its':=its++its2) hH e (by simp) (r.append r2) ?_,rfl,q⟩;rw [List.length_append];omega
def cm:V->List V->Hp->VK->Prop:=fun x vs H Q=>∃ l xs y,x=.ref l/\vs=[]/\H l=some (.lst xs)/\xs[xs.length - 1]?=some y/\Q y (upd H l (.lst xs.dropLast))
theorem Zq:YD X "list.pop" cm:=by
 intro pins s σ H x vs v us Q I rx rv h;obtain ⟨l,xs,y,rfl,rfl,hH,hy,q⟩:=h;cases rx;have hus:=rv.zero;subst hus;obtain ⟨z,its,n,r,hl,e⟩:=I.lstM hH;obtain ⟨u,hu,ru⟩:=r.get hy;have hy':its.toArray[its.toArray.size - 1]?=some u:=by
  show its.toArray[its.length - 1]?=some u;rw [<- Array.getElem?_toList,<- hl];exact hu
 refine call_meets F.slot_list_pop ⟨_,e,rfl⟩ F.entry_list_pop (F.args_list_pop_1 _) (MeetsSeq.list_pop_last l its.toArray n u hy' (by rw [List.size_toArray];omega)) ⟨e,?_⟩;refine ⟨y,_,I.lset (its':=its.dropLast) hH e ?_ r.dropLast ?_,ru,q⟩
 ·show its.toArray.eraseIdxIfInBounds (its.toArray.size - 1)=its.dropLast.toArray;rw [List.size_toArray,List.eraseIdxIfInBounds_toArray,Mf]
 ·rw [List.length_dropLast];omega
def RE:V->List V->Hp->VK->Prop:=fun x vs H Q=>∃ l xs i k y,x=.ref l/\vs=[.int i]/\H l=some (.lst xs)/\-(2 ^ 63)<=i/\i < 2 ^ 63/\seqIndex? i xs.length=some k/\xs[k]?=some y/\Q y (upd H l (.lst (xs.eraseIdx k)))
theorem Rr:YD X "list.pop" RE:=by
 intro pins s σ H x vs v us Q I rx rv h;obtain ⟨l,xs,i,k,y,rfl,rfl,hH,h1,h2,hk,hy,q⟩:=h;cases rx;obtain ⟨u,rfl,ru⟩:=rv.one;obtain ⟨t,rfl⟩:=ru;obtain ⟨z,its,n,r,hl,e⟩:=I.lstM hH;obtain ⟨w,hw,rw'⟩:=r.get hy;refine call_meets F.slot_list_pop ⟨_,e,rfl⟩ F.entry_list_pop (F.args_list_pop_2 _ _)
  (MeetsSeq.list_pop_at l its.toArray n i t k w (fitsIndex_both h1 h2) (by rw [List.size_toArray,<- hl];exact hk) (by rw [<- Array.getElem?_toList];exact hw) (by rw [List.size_toArray];omega)) ⟨e,?_⟩
 refine ⟨y,_,I.lset (its':=its.eraseIdx k) hH e ?_ (r.eraseIdx k) ?_,rw',q⟩
 ·show its.toArray.eraseIdxIfInBounds k=(its.eraseIdx k).toArray;rw [List.eraseIdxIfInBounds_toArray]
 ·have:=IG xs k;omega
def RG:V->List V->Hp->VK->Prop:=fun x vs H Q=>∃ l xs,x=.ref l/\vs=[]/\H l=some (.lst xs)/\Q .non (upd H l (.lst []))
theorem Ru:YD X "list.clear" RG:=by
 intro pins s σ H x vs v us Q I rx rv h;obtain ⟨l,xs,rfl,rfl,hH,q⟩:=h;cases rx;have hus:=rv.zero;subst hus;obtain ⟨z,its,n,r,hl,e⟩:=I.lstM hH;refine call_meets F.slot_list_clear ⟨_,e,rfl⟩ F.entry_list_clear (F.args_list_clear_1 _) (AutoSeq1.list_clear_list_0 l its.toArray n (by rw [List.size_toArray];omega)) ⟨e,?_⟩;exact ⟨.non,_,I.lset (its':=[]) (ys:=[]) hH e rfl .nil (Nat.zero_le _),rfl,q⟩
def cw:R2:=fun x y H Q=>∃ l b xs zs,x=.ref l/\y=.ref b/\H l=some (.lst xs)/\H b=some (.lst zs)/\xs.length+zs.length<=sizeLine/\∀ p,H p=none->Q (.ref p) (upd H p (.lst (xs++zs)))
theorem Zk:CN X (binaryOp .Add) cw:=by
 intro pins s σ H x y v u Q I rx ry h;obtain ⟨l,b,xs,zs,rfl,rfl,hH,hB,hz,q⟩:=h;cases rx;cases ry;obtain ⟨z,its,n,r,hl,e⟩:=I.lstM hH;obtain ⟨z2,its2,n2,r2,hl2,e2⟩:=I.lstM hB;refine PySem.P.add_list e e2 ?_ (by rw [List.size_toArray,List.size_toArray];omega);have ea:its.toArray++its2.toArray=(its++its2).toArray:=by simp
 rw [ea];exact ⟨.ref _,_,I.lnew (t':=s.toks) (r.append r2) (by rw [List.length_append];omega),rfl,q _ I.fresh⟩
def ck:R2:=fun x y H Q=>∃ l k xs,x=.ref l/\y=.int k/\H l=some (.lst xs)/\-(2 ^ 63)<=k/\k < 2 ^ 63/\xs.length * k.toNat<=sizeLine /\
 ∀ p,H p=none->Q (.ref p) (upd H p (.lst (List.replicate k.toNat xs).flatten))
theorem len_rep {α:Type} (xs:List α) (k:Nat):(List.replicate k xs).flatten.length=k * xs.length:=by
 induction k with
 | zero=>simp
 | succ k ih=>rw [List.replicate_succ,List.flatten_cons,List.length_append,ih,Nat.succ_mul,Nat.add_comm]
theorem Zc:CN X (binaryOp .Mult) ck:=by
 intro pins s σ H x y v u Q I rx ry h;obtain ⟨l,k,xs,rfl,rfl,hH,h1,h2,hz,q⟩:=h;cases rx;obtain ⟨t,rfl⟩:=ry;obtain ⟨z,its,n,r,hl,e⟩:=I.lstM hH;have hlen:its.toArray.size * k.toNat<=sizeLine:=by rw [List.size_toArray,<- hl];exact hz
 have hcap:¬ its.toArray.size * k.toNat > (2 ^ 63 - 1) / 8:=by
  have:(sizeLine:Nat)<=(2 ^ 63 - 1) / 8:=by decide
  omega
 have hfit:¬ (!Builtin.List.listFitsIndex k)=true:=by
  rw [fitsIndex_both h1 h2];exact Bool.false_ne_true
 have hlong:¬ Builtin.List.listTooLong (its.toArray.size * k.toNat)=true:=by
  rw [Ko hlen];exact Bool.false_ne_true
 have hnew:List.foldl (fun x1 x2=>x1++x2) #[] (List.replicate (if its.toArray.isEmpty=true then 0 else k.toNat) its.toArray)=(List.replicate k.toNat its).flatten.toArray:=by
  have f0:∀ m:Nat,List.foldl (fun x1 x2=>x1++x2) #[] (List.replicate m its.toArray)=(List.replicate m its).flatten.toArray:=fun m=>by
   have:=foldl_rep its m [];rw [List.nil_append] at this;exact this
  rw [f0];cases its with
  | nil=>simp
  | cons a r'=>rw [if_neg (by simp)]
 refine wpAny_binaryOp_repeat_ref (T := "list") (U := "int") (by decide) ⟨_,e,rfl⟩ (fun s'=>typeIs_int s' k t) noFill_list_mul F.fills_int_mul F.slot_int_rmul repeat_list F.slot_int_index.lookup
  (call_meets F.slot_int_rmul (typeIs_int s k t) F.entry_int_rmul (F.args_int_rmul_2 _ _) (int___rmul___int_list k t l its.toArray n)
   ⟨e,rfl,⟨_,e,rfl⟩,call_meets F.slot_list_mul ⟨_,e,rfl⟩ F.entry_list_mul (F.args_list_mul_2 _ _) (AutoListH.list___mul___list_int_3 l its.toArray n k t hfit hcap hlong) ⟨e,?_⟩⟩)
 rw [hnew];exact ⟨.ref _,_,I.lnew (t':=s.toks) (r.rep k.toNat) (by rw [len_rep,Nat.mul_comm];exact hz),rfl,q _ I.fresh⟩
end
section
end
section
end
end L2
namespace Att
open PySem PySem.W PySem.Calls PyProof.Rows
theorem Ff {P:Params} {h:Heap}:∀ (ns:List Int) (vs:List Value),WellAll P h vs (ns.map WData.int)->IntsAre vs ns:=by
 intro ns
 induction ns with
 | nil =>
  intro vs w;rw [List.map_nil] at w;cases w;exact .nil
 | cons n ns ih =>
  intro vs w;rw [List.map_cons] at w;cases w with
  | cons a b =>
   cases a;exact .cons _ _ (ih _ b)
theorem OS {l:OpenLaw} {n:Nat} (hn:l.most=some n) {P:Params} {h:Heap} {args:List WData} {vals:List Value}
    (hpre:l.row.toRowW.claim.pre args=true) (hwl:WellAll P h vals args) :
    ∃ a vs ns,vals=[Value.ref a]/\args=[WData.list (ns.map WData.int)]/\h.get? a=some { cls:=.type "list", data:=.seq vs.toArray }/\IntsAre vs ns/\ns.length<=n:=by
  have hsh:WShape.hasAll [] args [.list .int]=true:=(pre_splitW hpre).1;have hc:l.pre.holds [] { args:=args }=true:=(pre_splitW hpre).2;obtain ⟨d,r,rfl,h1,h2⟩:=hasAllW_cons hsh;obtain rfl:=hasAllW_nil h2;obtain ⟨xs,rfl,h3⟩:=hasW_list h1;obtain ⟨ns,rfl⟩:=items_int h3;have hlen:ns.length<=n:=by
    unfold OpenLaw.pre at hc;have h4:(WTm.not (.lt (.lit (.int (n:Int))) (.len (.arg 0)))).holds [] { args:=[.list (ns.map .int)] }=true:=by
      have h4:=(holds_andW hc).1;rw [hn] at h4;exact h4
    have h5:=condW_of h4 (w_not (w_lt w_lit (w_len_list (w_arg rfl))));rw [List.length_map] at h5;refine Nat.le_of_not_lt fun q=>?_
    have q':(n:Int) < ((ns.length:Nat):Int):=by omega
    first
      | (rw [decide_eq_true q'] at h5;exact absurd h5 (by decide))
      | (simp at h5;omega)
  cases hwl with
  | cons w1 w2 =>
    cases w2;cases w1 with
    | list ho hall=>exact ⟨_,_,ns,rfl,rfl,ho,Ff ns _ hall,hlen⟩
theorem Oa (l:OpenLaw) (args:List WData):l.row.toRowW.claim.post args (.bool true) args=true:=
 postW_of (r:=l.row.toRowW) (X:=(true == true))
  (show WShape.has [] (.bool true) .bool=true by first | rfl | decide | simp [WShape.has,WShape.arms,WShape.armsAll])
  (show (WTm.eq .res (.lit (.bool true))).value [] { args:=args,res:=some (.bool true),after:=args }=some (.bool (true == true)) from w_eq_bool (w_res rfl) w_lit) rfl
theorem attach_call {l:OpenLaw} {n:Nat} {q:Program} {loose:List Str} {XP:(Str->Option Value)->Heap->Prop} {YP:World->Heap->Prop} {d:DefRec}
    (hn:l.most=some n) (hdf:d.params.defaults=[])
    (call:∀ (w:World) (s₀ s₁:Shared) (mg mb:Str->Option Value) (fa:Addr) (o:Obj) (pm cd doc:Value) (a:Addr) (vs:List Value) (ns:List Int),
      Ground q loose [] XP w s₀ mg mb s₁.heap->YP w s₁.heap ->
      s₁.heap.get? fa=some o->o.data=.func (docDef d.name d.params d.body d.scope pm cd doc)->s₁.heap.CodeRec cd d.name->mg d.name=some (.ref fa) ->
      s₁.heap.get? a=some { cls:=.type "list", data:=.seq vs.toArray }->IntsAre vs ns->ns.length<=n->s₁.gens=#[] ->
      codeAny (model l.prog w) callerA (.call (.ref fa) ⟨[.ref a],[]⟩) (fun r s'=>r=.ok (.ret (.bool true))/\OldK s₁.heap s'.heap/\s'.os=s₁.os/\AllBare s'.gens) s₁) :
    WalkO q loose XP YP l.row.toRowW d [] (fun f vs=>PySem.call f vs):=by
  intro w s₀ s₁ mg mb G Y fa o pm cd doc dV kV ho hd hcd hD hmg hg args vals as hpre hlay hrd hwl hlo;obtain rfl:dV=.none:=Dflts.none hD hdf;obtain rfl:kV=.none:=Dflts.noKw hD;obtain ⟨a,vs,ns,rfl,rfl,hobj,hints,hlen⟩:=OS hn hpre hwl;refine enter_call (codeAny_mono (call w s₀ s₁ mg mb fa o pm cd doc a vs ns G Y ho (fd_plain hd) hcd hmg hobj hints hlen hg) fun r s' hq=>?_);obtain ⟨rfl,h2,h3,h4⟩:=hq;exact ⟨.inl ⟨.bool true,.bool true,[],rfl,fun _=>rfl,.bool true,Oa l _,fun _=>⟨List.Pairwise.nil,fun _ hm=>(nomatch hm)⟩⟩,h2,h3,h4⟩
section
end
end Att
namespace L2
open PySem PySem.Spec PyProof.Rows
theorem Hs:∀ {vs:List Value} {ns:List Int},IntsAre vs ns->AD (ns.map V.int) vs
 | _,_,.nil=>.nil
 | _,_,.cons n t h=>.cons ⟨t,rfl⟩ (Hs h)
def Wz (H:Hp):Prop:=∀ b,H b=none\/∃ o xs,H b=some (.frz o (.lst xs))
theorem SB {P:Program} {w:World} {K:W.Frag} {mg mb:Str->Option Value} {CX:UE} {k:Nat} {fa a:Addr} {fd:FuncData} {x:Str} {sp:Sp} {s₁:Shared} {vs:List Value} {ns:List Int}
    (KX:K.In s₁.heap) (hns:s₁.heap.Ns mainGlobals mg) (hb:s₁.heap.Ns builtinsNs mb) (hbb:∀ x:Str,x ≠ "__name__" -> mb x=bootBuiltins x) (hlim:s₁.heap.NoLimit) (hg:s₁.gens=#[])
    (ha:s₁.heap.get? a=some { cls:=.type "list", data:=.seq vs.toArray }) (hi:IntsAre vs ns) (hl:ns.length<=sizeLine) (hr:Room k callerA)
    (F:∀ base:Heap,K.In base->base.Ns mainGlobals mg->FnOk P w K mg base CX k fa fd [x] sp) (hbind:∀ (s:Shared) (u:Value),BindsTo s fd ⟨[u],[]⟩ [(x,u)])
    (hsp:∀ H:Hp,Wz H->Bq K H a (ns.map V.int)->sp [.ref a] H (fun v _=>v=.bl true) fun _ _ _=>False)
    (hCX:∀ H e s',CX [] H s₁ (fun _ _ _=>False) e s'->False) :
    codeAny (model P w) callerA (.call (.ref fa) ⟨[.ref a],[]⟩) (fun r s'=>r=.ok (.ret (.bool true))/\OldK s₁.heap s'.heap/\s'.os=s₁.os/\AllBare s'.gens) s₁:=by
  have rv:=Hs hi;have lenV:=hi.length
  -- from an abstract heap in which nothing but the script may be tracked
  have core:∀ H:Hp,Wz H->Bq K H a (ns.map V.int)->Fi P w H s₁.heap->(∀ b,H b≠none->b=a)->(H a≠none->K.lookup a=none) ->
      codeAny (model P w) callerA (.call (.ref fa) ⟨[.ref a],[]⟩) (fun r s'=>r=.ok (.ret (.bool true))/\OldK s₁.heap s'.heap/\s'.os=s₁.os/\AllBare s'.gens) s₁:=by
    intro H hO hS hok hA hK;have Ek:∀ {b:Addr} {o:Obj},s₁.heap.get? b=some o->H b=none->(JS s₁.heap H).get? b=some o:=fun e n=>SJ e n
    have noA:∀ {b:Addr} {o:Obj} {es:Array DictEntry} {ep:Nat},s₁.heap.get? b=some o->o.data=.dict es ep->H b=none:=fun {b o es ep} e d=>by
      cases q:H b with
      | none=>rfl
      | some u =>
        have e':b=a:=hA b (by rw [q];simp);subst e';rw [ha] at e;cases e;have d':Data.seq vs.toArray _=Data.dict es ep:=d;cases d'
    have nsK:∀ {b:Addr} {m:Str->Option Value},s₁.heap.Ns b m->(JS s₁.heap H).Ns b m:=fun {b m} ⟨o,es,ep,e,d,r⟩=>⟨o,es,ep,Ek e (noA e d),d,r⟩
    have hKb:K.In (JS s₁.heap H):=fun b o e=>Ek (KX b o e) (by
      cases q:H b with
      | none=>rfl
      | some u =>
        have e':b=a:=hA b (by rw [q];simp);subst e';rw [hK (by rw [q];simp)] at e;cases e)
    have hM:Mod K mg (JS s₁.heap H):=⟨hKb,nsK hns,⟨mb,nsK hb,hbb⟩,let ⟨mc,h1,h2⟩:=hlim;⟨mc,nsK h1,h2⟩⟩;have e0:Env0 P w K mg (JS s₁.heap H) callerA [] s₁ H:=⟨rfl,hM,fun b o e=>Vd e,Nat.le_of_eq (PC _ _),trivial,fun b hb=>absurd (show b∈([]:List Addr) from hb) (by simp),hok,.of_eq hg⟩;refine codeAny_mono ((F _ hKb (nsK hns)).run callerA [] s₁ H ⟨[.ref a],[]⟩ [.ref a] [.ref a] _ _ hr e0 (hbind s₁ (.ref a)) (.cons rfl .nil) (hsp H hO hS)) fun r s' h=>?_
    cases r with
    | error e=>exact (hCX H e s' h).elim
    | ok fl =>
      cases fl with
      | next=>exact False.elim h
      | brk=>exact False.elim h
      | cont=>exact False.elim h
      | ret u =>
        obtain ⟨v,H',os,bare,un,hok',r',q⟩:=h;have q':v=.bl true:=q;subst q';obtain rfl:u=Value.bool true:=r';refine ⟨rfl,OldK.of_keep fun b o e=>?_,os,bare⟩;cases q:H b with
        | none=>exact un.keep b o e q (by intro z;exact absurd (show b∈([]:List Addr) from z) (by simp)) (by simp)
        | some u =>
          rcases hO b with z | ⟨ob,xs,z⟩
          · rw [q] at z;cases z
          · have z2:=un.frzs b ob _ z;obtain ⟨e1,_⟩:=hok b _ z;obtain ⟨e2,_⟩:=hok' b _ z2;rw [e] at e1;cases e1;exact e2
  cases hk:K.lookup a with
  | some o =>
    -- the script is one of the module's own objects
    have e:=KX a o hk;rw [ha] at e;cases e;refine core (fun _=>none) (fun _=>.inl rfl) (.inr ⟨_,vs.toArray,_,hk,rfl,rfl,rfl,by rw [List.size_toArray,lenV];exact hl,by simpa using rv⟩) (fun b u z=>by have z':(none:Option HO)=some u:=z;cases z') (fun b z=>absurd rfl z) fun z=>absurd rfl z
  | none =>
    refine core (fun b=>if b=a then some (.frz { cls:=.type "list", data:=.seq vs.toArray } (.lst (ns.map V.int))) else none) (fun b=>?_) (.inl (.inr ⟨{ cls:=.type "list", data:=.seq vs.toArray },if_pos rfl⟩)) (fun b u z=>?_) (fun b z=>?_) fun _=>hk
    · by_cases hb:b=a
      · exact .inr ⟨_,_,if_pos hb⟩
      · exact .inl (if_neg hb)
    · by_cases hb:b=a
      · have z':=(if_pos hb).symm.trans z;cases z';subst hb;exact ⟨ha,by rw [List.length_map];exact hl,vs,_,rv,ha⟩
      · have z':=(if_neg hb).symm.trans z;cases z'
    · by_cases hb:b=a
      · exact hb
      · exact absurd (if_neg hb) z
theorem walk_of {l:W.OpenLaw} {n k:Nat} {q:Program} {loose:List Str} {XP:(Str->Option Value)->Heap->Prop} {YP:World->Heap->Prop} {d:DefRec} {K:Params->W.Frag} {CX:World->UE} {sp:World->Sp} {x:Str}
    (hn:l.most=some n) (hn2:n<=sizeLine) (hdf:d.params.defaults=[]) (hr:Room k callerA)
    (hY:∀ (w:World) (h:Heap),YP w h->(K w.params).In h)
    (F:∀ (w:World) (mg:Str->Option Value) (fa:Addr) (h:Heap),(K w.params).In h->h.Ns mainGlobals mg->mg d.name=some (.ref fa) ->
      ∃ fd:FuncData,(∀ (s:Shared) (u:Value),BindsTo s fd ⟨[u],[]⟩ [(x,u)]) /\
        ∀ base:Heap,(K w.params).In base->base.Ns mainGlobals mg->FnOk l.prog w (K w.params) mg base (CX w) k fa fd [x] (sp w))
    (hsp:∀ (w:World) (H:Hp) (a:Addr) (ns:List Int),ns.length<=n->Wz H->Bq (K w.params) H a (ns.map V.int)->sp w [.ref a] H (fun v _=>v=.bl true) fun _ _ _=>False)
    (hCX:∀ (w:World) (H:Hp) (s:Shared) (e:Value) (s':Shared),CX w [] H s (fun _ _ _=>False) e s'->False) :
    W.WalkO q loose XP YP l.row.toRowW d [] (fun f vs=>PySem.call f vs):=by
  refine Att.attach_call hn hdf fun w s₀ s₁ mg mb fa o pm cd doc a vs ns G Y ho hd hcd hmg hobj hints hlen hg=>?_
  have KX:=hY w _ Y;obtain ⟨fd,hb,hF⟩:=F w mg fa _ KX G.T.g hmg;exact SB KX G.T.g G.T.b G.T.builtins G.T.nolimit hg hobj hints (Nat.le_trans hlen hn2) hr hF hb (fun H hO hS=>hsp w H a ns hlen hO hS) fun H e s'=>hCX w H s₁ e s'
noncomputable def Am (s:Stmt):Arguments:=match s with
 | .FunctionDef _ a _ _ _ _ _ _ _ _=>a
 | _=>{ posonlyargs:=[],args:=[],vararg:=none,kwonlyargs:=[],kw_defaults:=[],kwarg:=none,defaults:=[] }
noncomputable def AY (s:Stmt):List Stmt:=match s with
 | .FunctionDef _ _ b _ _ _ _ _ _ _=>b
 | _=>[]
noncomputable def AG (s:Stmt):Scope:=match s with
 | .FunctionDef _ _ _ _ _ _ sc _ _ _=>sc
 | _=>{ kind:=.function,names:=[],isGenerator:=false,isCoroutine:=false }
abbrev Pp:UE:=fun _ _ _ _ _ _=>False
abbrev E0:XK:=fun _ _ _=>False
theorem Xa {X:Cx}:Jx Pp X E0:=fun _ _ _ _ _ _ _ h=>h.elim
structure Fun (K:W.Frag) (x qual:Str) (st:Stmt) (f:Addr) (fd:FuncData):Prop where
 ex:∃ (oc:Value) (od:Option Addr) (kV doc pm:Value) (an:Option Addr) (cdv ct:Value) (osl:Array (Option Value)),
  fd=W.fnOf x qual (Am st) (AY st) (AG st) .none kV doc pm an cdv ct/\K.lookup f=some ⟨oc,od,.func fd,osl⟩/\W.codeIn K cdv qual=true
 kp:W.keepIn K (.ref f)=true
section
variable {P:Program} {w:World} {K:W.Frag} {mg:Str->Option Value} {base:Heap}
theorem Fun.ok {x qual:Str} {st:Stmt} {f:Addr} {fd:FuncData} {N ps:List Str} {k:Nat} {sp:Sp} (F:Fun K x qual st f fd) (S:FnScope N ps (AG st)) (len:∀ vs H Q E,sp vs H Q E->vs.length=ps.length)
    (hbody:∀ (cdv:Value) (A:Around) (outer:List Env) (s:Shared) (H:Hp) (vs:List V) (Q:VK) (E:XK),Room k (A.deeper (envOfC qual (AG st) s.heap.objs.size f cdv))->sp vs H Q E ->
      ∃ t,DL (LL Pp P w K mg base N qual (AG st) f cdv A outer s H E).nox (AY st) t/\t { nx:=fun _ H'=>Q .non H',rt:=Q } (start N vs) H):FnOk P w K mg base Pp (k+1) f fd ps sp:=by
  obtain ⟨oc,od,kV,doc,pm,an,cdv,ct,osl,rfl,lk,hcd⟩:=F.ex;refine eD lk hcd S len fun A outer s H vs Q E hr hsp=>?_
  obtain ⟨t,h,q⟩:=hbody cdv A outer s H vs Q E hr hsp;exact ⟨t,h.nox,q⟩
theorem Fun.binds {x qual:Str} {st:Stmt} {f:Addr} {fd:FuncData} {ps:List Str} (F:Fun K x qual st f fd)
    (h:∀ (kV doc pm:Value) (an:Option Addr) (cdv ct:Value) (us:List Value),us.length=ps.length->bindArgs (W.fnOf x qual (Am st) (AY st) (AG st) .none kV doc pm an cdv ct) ⟨us,[]⟩=pure (ps.zip us)):Binds K fd ps []:=by
  obtain ⟨oc,od,kV,doc,pm,an,cdv,ct,osl,rfl,lk,hcd⟩:=F.ex;exact .all (h kV doc pm an cdv ct)
theorem aO {x qual:Str} {st:Stmt} {f:Addr} {oc:Value} {od an:Option Addr} {osl:Array (Option Value)} {kV doc pm cdv ct:Value} (l:K.lookup f=some ⟨oc,od,.func (W.fnOf x qual (Am st) (AY st) (AG st) .none kV doc pm an cdv ct),osl⟩)
    (c:W.codeIn K cdv qual=true) (k:W.keepIn K (.ref f)=true):Fun K x qual st f (W.fnOf x qual (Am st) (AY st) (AG st) .none kV doc pm an cdv ct):=⟨⟨oc,od,kV,doc,pm,an,cdv,ct,osl,rfl,l,c⟩,k⟩
end
section
end
def Pm (H H':Hp):Prop:=∀ b o,H b=some o->H' b=some o
noncomputable def AJ (sc:Scope) (x:Str):Bool:=match sc.names.lookup x with | some .cell=>true | _=>false
def Cx.inner (X:Cx) (scope:Scope) (cl:List (Str×Addr)) (C:Addr) (s:Shared) (H:Hp) (fp:List Addr):Cx:=
 { X with s₀:=s,H₀:=H,env:=compEnvC scope cl C X.env,outer:=X.stack,ex:=fp,fn:=AJ scope,xe:=fun _ _=>False }
theorem Ac {scope:Scope} {env:Env} {x:Str}:∀ {names:List (Str×NameKind)}, 
    ((names.map fun (n,k)=>if (k == NameKind.free && env.scope.kind == .function && env.kindOf n == some .cell) then (n,NameKind.cell) else (n,k)).lookup x=some .cell \/
     (names.map fun (n,k)=>if (k == NameKind.free && env.scope.kind == .function && env.kindOf n == some .cell) then (n,NameKind.cell) else (n,k)).lookup x=some .free) ->
    names.lookup x=some .cell\/names.lookup x=some .free
  | [],h=>by simp at h
  | (n,k)::r,h=>by
    have ih:=@Ac scope env x r;cases hx:x == n with
    | true =>
      simp only [List.map_cons,List.lookup_cons] at h ⊢
      by_cases hc:(k == NameKind.free && env.scope.kind == .function && env.kindOf n == some .cell)=true
      · have hk:k=.free:=by
          simp only [Bool.and_eq_true,beq_iff_eq] at hc;exact hc.1.1
        right;simp [hx,hk]
      · rw [if_neg hc] at h;simp only [List.lookup_cons,hx] at h ⊢;exact h
    | false =>
      simp only [List.map_cons,List.lookup_cons] at h ⊢
      by_cases hc:(k == NameKind.free && env.scope.kind == .function && env.kindOf n == some .cell)=true
      · rw [if_pos hc] at h;simp only [List.lookup_cons,hx] at h ⊢;exact ih h
      · rw [if_neg hc] at h;simp only [List.lookup_cons,hx] at h ⊢;exact ih h
theorem Cg {env:Env} {x:Str}:∀ {names:List (Str×NameKind)}, 
    (names.map fun (n,k)=>if (k == NameKind.free && env.scope.kind == .function && env.kindOf n == some .cell) then (n,NameKind.cell) else (n,k)).lookup x=some .local ->
    names.lookup x=some .local
  | [],h=>by simp at h
  | (n,k)::r,h=>by
    have ih:=@Cg env x r;cases hx:x == n with
    | true =>
      simp only [List.map_cons,List.lookup_cons] at h ⊢
      by_cases hc:(k == NameKind.free && env.scope.kind == .function && env.kindOf n == some .cell)=true
      · rw [if_pos hc] at h;simp only [List.lookup_cons,hx] at h;cases h
      · rw [if_neg hc] at h;simp only [List.lookup_cons,hx] at h ⊢;exact h
    | false =>
      simp only [List.map_cons,List.lookup_cons] at h ⊢
      by_cases hc:(k == NameKind.free && env.scope.kind == .function && env.kindOf n == some .cell)=true
      · rw [if_pos hc] at h;simp only [List.lookup_cons,hx] at h ⊢;exact ih h
      · rw [if_neg hc] at h;simp only [List.lookup_cons,hx] at h ⊢;exact ih h
theorem HC {scope:Scope} {env:Env} (hhas:∀ x,scope.names.lookup x=some .free->∃ c,env.cells.lookup x=some c) (hnd:∀ x k,(x,k)∈scope.names->k=.free->scope.names.lookup x=some .free) :
    ∃ cl,closureFor scope env=pure cl/\(∀ x c,cl.lookup x=some c->env.cells.lookup x=some c)/\∀ x,scope.names.lookup x=some .free->∃ c,cl.lookup x=some c:=by
  have go:∀ (names:List (Str×NameKind)) (cs:List (Str×Addr)),(∀ x k,(x,k)∈names->k=.free->∃ c,env.cells.lookup x=some c)->(∀ x c,cs.lookup x=some c->env.cells.lookup x=some c) ->
      ∃ cl,(forIn names cs (fun (x:Str×NameKind) (r:List (Str×Addr))=>(if (x.2 == NameKind.free)=true then (cellOf env x.1 >>= fun c=>(pure (ForInStep.yield ((x.1,c)::r)):Sem _)) else pure (ForInStep.yield r))))=(pure cl:Sem _) /\
        (∀ x c,cl.lookup x=some c->env.cells.lookup x=some c)/\(∀ x,(cs.lookup x).isSome=true->(cl.lookup x).isSome=true)/\∀ x,(x,NameKind.free)∈names->(cl.lookup x).isSome=true:=by
    intro names
    induction names with
    | nil=>intro cs _ h2;exact ⟨cs,by simp,h2,fun _ z=>z,fun _ z=>by simp at z⟩
    | cons p r ih =>
      intro cs h1 h2;obtain ⟨n,k⟩:=p
      by_cases hk:k=.free
      · subst hk;obtain ⟨c,hc⟩:=h1 n _ List.mem_cons_self rfl;have hcell:cellOf env n=pure c:=by unfold cellOf;rw [hc]
        obtain ⟨cl,e,a,b,d⟩:=ih ((n,c)::cs) (fun x k hx hk=>h1 x k (List.mem_cons_of_mem _ hx) hk) (fun x c' hx=>by
          rw [List.lookup_cons] at hx;cases hxn:x == n with
          | true => rw [hxn] at hx; simp at hx; subst hx; have : x = n := by simpa using hxn
                    rw [this];exact hc
          | false=>rw [hxn] at hx;exact h2 x c' hx)
        refine ⟨cl,?_,a,fun x hx=>b x ?_,fun x hx=>?_⟩
        · rw [List.forIn_cons];simp only [hcell];simpa using e
        · rw [List.lookup_cons];cases hxn:x == n with
          | true=>rfl
          | false=>exact hx
        · rcases List.mem_cons.mp hx with z | z
          · injection z with z1 _
            subst z1;exact b x (by rw [List.lookup_cons];simp)
          · exact d x z
      · have hb:(k == NameKind.free)=false:=by simpa using hk
        obtain ⟨cl,e,a,b,d⟩:=ih cs (fun x k hx hk=>h1 x k (List.mem_cons_of_mem _ hx) hk) h2;refine ⟨cl,?_,a,b,fun x hx=>?_⟩
        · rw [List.forIn_cons];simp only [hb];simpa using e
        · rcases List.mem_cons.mp hx with z | z
          · injection z with _ z2
            exact absurd z2.symm hk
          · exact d x z
  obtain ⟨cl,e,a,_,d⟩:=go scope.names [] (fun x k hx hk=>hhas x (hnd x k hx hk)) (fun x c h=>by simp at h);refine ⟨cl,?_,a,fun x hx=>Option.isSome_iff_exists.mp (d x (PySem.mem_of_lookup hx))⟩;unfold closureFor;simpa using e
theorem Ai:∀ (names:List (Str×NameKind)) (n:Nat) (acc:List (Str×Addr)),cellsFrom n names acc=cellsFrom n names []++acc
 | [],n,acc=>by simp [cellsFrom]
 | (x,k)::r,n,acc=>by
  unfold cellsFrom;split
  ·rw [Ai r (n+1) ((x,n)::acc),Ai r (n+1) [(x,n)],List.append_assoc];rfl
  ·exact Ai r n acc
theorem Ci {x:Str} {c:Addr}:∀ (names:List (Str×NameKind)) (n:Nat),(x,c)∈cellsFrom n names []->(x,NameKind.cell)∈names
 | [],n,h=>by simp [cellsFrom] at h
 | (y,k)::r,n,h=>by
  unfold cellsFrom at h;split at h
  ·rename_i hk;have hk:k=.cell:=by simpa using hk
   rw [Ai] at h;rcases List.mem_append.mp h with h | h
   ·exact List.mem_cons_of_mem _ (Ci r _ h)
   ·rw [List.mem_singleton] at h;cases h;rw [hk];exact List.mem_cons_self
  ·exact List.mem_cons_of_mem _ (Ci r _ h)
theorem Cj {x:Str}:∀ (names:List (Str×NameKind)) (n:Nat),(x,NameKind.cell)∈names->∃ c,(cellsFrom n names []).lookup x=some c
 | [],n,h=>by cases h
 | (y,k)::r,n,h=>by
  unfold cellsFrom
  by_cases hr:(x,NameKind.cell)∈r
  ·split
   ·rw [Ai];obtain ⟨c,e⟩:=Cj r (n+1) hr;exact ⟨c,by rw [List.lookup_append,e];rfl⟩
   ·exact Cj r n hr
  ·rcases List.mem_cons.mp h with e | e
   ·cases e;simp only [beq_self_eq_true,if_true];rw [Ai];cases q:(cellsFrom (n+1) r []).lookup x with
    | some c=>exact ⟨c,by rw [List.lookup_append,q];rfl⟩
    | none=>exact ⟨n,by rw [List.lookup_append,q];simp⟩
   ·exact absurd e hr
theorem Br {M:Model} {A:Around} {E:Value->Shared->Prop} {s:Shared} {scope:Scope} {globals:Addr} {closure:List (Str×Addr)} {qual:Str} {outer:Env} {Q:Env->Shared->Prop}
    (hQ:Q { scope:=scope,locals:=s.heap.objs.size,globals:=globals,cells:=cellsFrom (s.heap.objs.size+1) scope.names closure,qual:=qual,func:=none,code:=outer.code,frame:=outer.frame,builtins:=outer.builtins } { s with heap:=pushCells (s.heap.push { cls:=.type "dict", data:=.dict #[] }) scope.names }) :
    wpAny M A (newFunctionEnv scope globals closure [] qual none .none (some outer)) Q E s:=by
  simp only [newFunctionEnv,Option.isSome_some,if_true];refine wpAny_bind (wpAny_alloc ?_);refine wpAny_bind (wpAny_layCells _ (fun name kind cells=>by cases hkc:kind == NameKind.cell<;>simp [hkc]) _ _ _ _ ?_)
  rw [show ({ s with heap:=s.heap.push { cls:=.type "dict", data:=.dict #[] } }:Shared).heap.objs.size=s.heap.objs.size+1 from Heap.size_push ..]
  rw [List.forIn_nil];exact wpAny_bind (wpAny_pure (wpAny_pure hQ))
noncomputable def innerOk (N:List Str) (sc scope:Scope) (js:List Nat):Bool:=
 (match scope.kind with | .function=>true | _=>false) &&
 scope.names.all (fun p=>(match p.2 with
  | .cell=>(match scope.names.lookup p.1 with | some .cell=>true | _=>false)
  | .local=>(match scope.names.lookup p.1 with | some .local=>true | _=>false)
  | .free=>(match scope.names.lookup p.1 with | some .free=>true | _=>false) && (match sc.names.lookup p.1 with | some .cell=>true | some .free=>true | _=>false)
  | _=>true)) &&
 (N.zipIdx.all fun p=>(match scope.names.lookup p.1 with | some .local=>js.contains p.2 | some .cell=>js.contains p.2 | _=>true))
structure InnerIn (N:List Str) (sc scope:Scope) (js:List Nat):Prop where
 kind:scope.kind=.function
 uniqC:∀ x k,(x,k)∈scope.names->k=.cell->scope.names.lookup x=some .cell
 uniqL:∀ y∈scope.names,y.2=.local->scope.names.lookup y.1=some .local
 uniqF:∀ x k,(x,k)∈scope.names->k=.free->scope.names.lookup x=some .free
 fr:∀ x,scope.names.lookup x=some .free->sc.names.lookup x=some .cell\/sc.names.lookup x=some .free
 jsl:∀ (i:Nat) x,N[i]?=some x->scope.names.lookup x=some .local\/scope.names.lookup x=some .cell->i∈js
theorem Gu {N:List Str} {sc scope:Scope} {js:List Nat} (h:innerOk N sc scope js=true):InnerIn N sc scope js:=by
  unfold innerOk at h;rw [Bool.and_eq_true,Bool.and_eq_true] at h;obtain ⟨⟨h1,h2⟩,h3⟩:=h;rw [List.all_eq_true] at h2 h3;refine ⟨?_,fun x k hy e=>?_,fun y hy e=>?_,fun x k hy e=>?_,fun x e=>?_,fun i x e1 e2=>?_⟩
  · cases q:scope.kind<;>rw [q] at h1<;>first | rfl | cases h1
  · have:=h2 _ hy;rw [e] at this;dsimp only at this;split at this
    · assumption
    · cases this
  · have:=h2 y hy;rw [e] at this;dsimp only at this;split at this
    · assumption
    · cases this
  · have:=h2 _ hy;rw [e] at this;dsimp only at this;rw [Bool.and_eq_true] at this;have:=this.1;split at this
    · assumption
    · cases this
  · have:=h2 _ (PySem.mem_of_lookup e);dsimp only at this;rw [Bool.and_eq_true] at this;have:=this.2;split at this
    · left;assumption
    · right;assumption
    · cases this
  · have hm:(x,i)∈N.zipIdx:=by
      rw [List.mem_zipIdx_iff_getElem?];exact e1
    have:=h3 _ hm;dsimp only at this;rcases e2 with e2 | e2
    · rw [e2] at this;dsimp only at this;simpa using this
    · rw [e2] at this;dsimp only at this;simpa using this
def blank (js:List Nat) (σ:St):St:=js.foldl (fun σ j=>σ.set j none) σ
theorem blank_length (js:List Nat):∀ σ:St,(blank js σ).length=σ.length:=by
 induction js with
 | nil=>intro σ;rfl
 | cons j r ih=>intro σ;unfold blank;rw [List.foldl_cons];have:=ih (σ.set j none);unfold blank at this;rw [this,List.length_set]
theorem FP (js:List Nat):∀ (σ:St) (i:Nat) (v:V),(blank js σ)[i]?=some (some v)->i∉js/\σ[i]?=some (some v):=by
 induction js with
 | nil=>intro σ i v h;exact ⟨by simp,h⟩
 | cons j r ih =>
  intro σ i v h;unfold blank at h;rw [List.foldl_cons] at h;obtain ⟨a,b⟩:=ih (σ.set j none) i v h
  by_cases e:i=j
  ·subst e
   by_cases hl:i < σ.length
   ·rw [List.getElem?_set_self hl] at b;cases b
   ·rw [List.getElem?_eq_none (by rw [List.length_set];omega)] at b;cases b
  ·rw [List.getElem?_set_ne (Ne.symm e)] at b;exact ⟨by simp [e,a],b⟩
def QA (js:List Nat) (g:TG):Prop:=∀ x σ H Q,g x σ H Q->g x σ H fun σ2 H2=>(σ2.length=σ.length/\∀ i,i∉js->σ2[i]?=σ[i]?)/\Q σ2 H2
theorem SL {j:Nat} {js:List Nat} (h:j∈js):QA js (DW j):=fun x σ H Q q=>⟨⟨List.length_set ..,fun i hi=>List.getElem?_set_ne (fun (e:j=i)=>hi (e▸h))⟩,q⟩
def Pn (js:List Nat) (g:Mv):Prop:=∀ x σ H Q,g x σ H Q->g x σ H fun σ2 H2=>(σ2.length=σ.length/\∀ i,i∉js->σ2[i]?=σ[i]?)/\Q σ2 H2
theorem SK {js:List Nat}:Pn js aM:=fun x σ H Q ⟨e,q⟩=>⟨e,⟨rfl,fun _ _=>rfl⟩,q⟩
theorem PD {j:Nat} {js:List Nat} {u:Mv} (h:j∈js) (hu:Pn js u):Pn js (SM (DW j) u):=by
 rintro x σ H Q ⟨v,r,e,q⟩;refine ⟨v,r,e,?_⟩;have:=hu r (σ.set j (some v)) H Q q;show u r (σ.set j (some v)) H _;have key:∀ (P P':St->Hp->Prop),(∀ a b,P a b->P' a b)->True:=fun _ _ _=>trivial
 have e2:(fun σ2 H2=>(σ2.length=(σ.set j (some v)).length/\∀ (i:Nat),i∉js->σ2[i]?=(σ.set j (some v))[i]?)/\Q σ2 H2)=(fun σ2 H2=>(σ2.length=σ.length/\∀ (i:Nat),i∉js->σ2[i]?=σ[i]?)/\Q σ2 H2):=by
  funext σ2 H2;have e3:(∀ (i:Nat),i∉js->σ2[i]?=(σ.set j (some v))[i]?)=(∀ (i:Nat),i∉js->σ2[i]?=σ[i]?):=by
   apply propext;constructor
   ·intro k i hi;rw [k i hi,List.getElem?_set_ne (fun (e:j=i)=>hi (e▸h))]
   ·intro k i hi;rw [k i hi,List.getElem?_set_ne (fun (e:j=i)=>hi (e▸h))]
  rw [e3,List.length_set]
 rw [e2] at this;exact this
theorem Vr {K:W.Frag} {n:Nat} {js:List Nat} {u:Mv} (hu:Pn js u):QA js (aL K n u):=by
 rintro x σ H Q ⟨a,xs,e,hq,hl,q⟩;exact ⟨a,xs,e,hq,hl,hu _ _ _ _ q⟩
section
variable {X:Cx} {pins:List (Addr×Obj)} {σ:St} {H:Hp} {s:Shared} {scope:Scope} {cl:List (Str×Addr)} {js:List Nat} {fp:List Addr} {C D:Addr}
theorem Inv.notStk (I:Inv X pins σ H s) {a:Addr} (h:s.heap.objs.size<=a):a∉Ng X.stack:=fun hb=>by
 rcases List.mem_cons.mp (I.stkSub a hb) with e | e
 ·exact absurd (Nat.lt_of_lt_of_le I.lt (e▸h)) (Nat.lt_irrefl _)
 ·exact I.nofs h e
theorem Inv.cellLt (I:Inv X pins σ H s) {x:Str} {c:Addr} (e:X.env.cells.lookup x=some c):c < s.heap.objs.size:=by
 obtain ⟨v,q⟩:=I.cell x c e;exact q.lt
theorem Inv.pinLt (I:Inv X pins σ H s) {p:Addr×Obj} (hp:p∈X.pn++pins):p.1 < s.heap.objs.size:=Heap.lt_size (I.pin p hp).1
structure Celz (X:Cx) (scope:Scope) (cl:List (Str×Addr)) (s:Shared) (C:Addr):Prop where
 old:∀ x c,cl.lookup x=some c->AJ scope x=false->X.env.cells.lookup x=some c
 own:∀ x c,cl.lookup x=some c->AJ scope x=true->s.heap.objs.size<=c/\C < c
 inj:∀ x y c,cl.lookup x=some c->cl.lookup y=some c->AJ scope x=true->AJ scope y=true->x=y
 fr:∀ x,scope.names.lookup x=some .free->∃ c,cl.lookup x=some c
 has:∀ x,AJ scope x=true->∃ c,cl.lookup x=some c
theorem Celz.ne (L:Celz X scope cl s C) {x:Str} {c b:Addr} (e:cl.lookup x=some c) (hb:b < s.heap.objs.size) (h:∀ x c,X.env.cells.lookup x=some c->c≠b):c≠b:=by
 cases q:AJ scope x with
 | false=>exact h x c (L.old x c e q)
 | true=>exact Nat.ne_of_gt (Nat.lt_of_lt_of_le hb (L.own x c e q).1)
theorem WT {cl0:List (Str×Addr)} (hin:InnerIn X.N X.env.scope scope js) (hcl:∀ x c,cl0.lookup x=some c->X.env.cells.lookup x=some c) (hfr:∀ x,scope.names.lookup x=some .free->∃ c,cl0.lookup x=some c)
    {h:Heap} (hC:s.heap.objs.size<=C) (hs:h.objs.size=C+1):Celz X scope (cellsFrom (C+1) scope.names cl0) s C/\∀ x c,(cellsFrom (C+1) scope.names cl0).lookup x=some c->AJ scope x=true->∃ v,(pushCells h scope.names).IsCell c v:=by
  have ok:=cellsFrom_ok scope.names h (C+1) [] ⟨fun _ _ hm=>(nomatch hm),List.Pairwise.nil⟩ (by rw [hs];exact Nat.le_refl _);rw [hs] at ok;rw [Ai];generalize hw:cellsFrom (C+1) scope.names []=own at ok;have mem:∀ x c,own.lookup x=some c->AJ scope x=true:=fun x c e=>by
    have:=hin.uniqC x _ (Ci scope.names (C+1) (by rw [hw];exact PySem.mem_of_lookup e)) rfl;unfold AJ;rw [this]
  have has:∀ x,AJ scope x=true->∃ c,own.lookup x=some c:=fun x e=>by
    unfold AJ at e;split at e
    · rename_i q;obtain ⟨c,z⟩:=Cj scope.names (C+1) (PySem.mem_of_lookup q);rw [hw] at z;exact ⟨c,z⟩
    · cases e
  have yes:∀ x c,(own++cl0).lookup x=some c->AJ scope x=true->own.lookup x=some c:=fun x c e q=>by
    obtain ⟨c',z⟩:=has x q;rw [List.lookup_append,z] at e;rw [z];exact e
  have no:∀ x,AJ scope x=false->(own++cl0).lookup x=cl0.lookup x:=fun x q=>by
    rw [List.lookup_append];cases z:own.lookup x with
    | none=>rfl
    | some c=>rw [mem x c z] at q;cases q
  refine ⟨⟨fun x c e q=>hcl x c (by rw [<- no x q];exact e),fun x c e q=>?_,fun x y c e1 e2 q1 q2=>?_,fun x e=>?_,fun x q=>?_⟩,fun x c e q=>?_⟩
  · have:=(ok.empty x c (PySem.mem_of_lookup (yes x c e q))).2;exact ⟨Nat.le_trans hC (Nat.le_of_succ_le this),this⟩
  · exact PySem.name_of_addr ok.apart (PySem.mem_of_lookup (yes x c e1 q1)) (PySem.mem_of_lookup (yes y c e2 q2))
  · obtain ⟨c,z⟩:=hfr x e;exact ⟨c,by rw [no x (by unfold AJ;rw [e])];exact z⟩
  · obtain ⟨c,z⟩:=has x q;exact ⟨c,by rw [List.lookup_append,z];rfl⟩
  · exact ⟨none,(ok.empty x c (PySem.mem_of_lookup (yes x c e q))).1⟩
theorem Inv.innerOk (I:Inv X pins σ H s) (hin:InnerIn X.N X.env.scope scope js) (hf:∀ b∈fp,FpOk X pins H b) (hfe:∀ b∈fp,b < s.heap.objs.size) (hC:s.heap.objs.size<=C)
    (L:Celz X scope cl s C):(X.inner scope cl C s H fp).Ok where
  mod:=I.ok.mod
  kind:=hin.kind
  glob:=I.ok.glob
  blt:=I.ok.blt
  above:=hC
  inj:=fun x y c a b=>by
    cases hx:AJ scope x<;>cases hy:AJ scope y
    · exact I.ok.inj x y c (L.old x c a hx) (L.old y c b hy)
    · exact absurd (I.cellLt (L.old x c a hx)) (Nat.not_lt.mpr (L.own y c b hy).1)
    · exact absurd (I.cellLt (L.old y c b hy)) (Nat.not_lt.mpr (L.own x c a hx).1)
    · exact L.inj x y c a b hx hy
  has:=fun x h=>by
    rcases Ac (scope:=scope) (env:=X.env) (names:=scope.names) h with q | q
    · exact L.has x (by unfold AJ;rw [q])
    · exact L.fr x q
  cab:=fun x c h e=>(L.own x c e h).1
  hd:=I.ok.hd
  frames:=I.ok.frames
  stk:=.inl rfl
  exf:=fun b hb=>⟨Nat.ne_of_lt (Nat.lt_of_lt_of_le (hfe b hb) hC),fun x c e=>L.ne e (hfe b hb) (hf b hb).2.2.2.2.1⟩
  bs:=I.bs
  bsz:=Nat.le_trans I.ok.bsz I.sz
  noex:=fun b o e hb=>by
    rcases (hf b hb).2.2.2.1 with z | z
    · exact I.ok.noex b o e z
    · exact absurd (Nat.lt_of_lt_of_le (Heap.lt_size e) (Nat.le_trans I.ok.bsz z)) (Nat.lt_irrefl _)
  exfs:=fun b hb z=>by
    rcases List.mem_cons.mp (I.stkSub b z) with e | e
    · exact (hf b hb).2.1 e
    · exact (hf b hb).2.2.1 e
  funs:=I.stack
  frf:=I.stkFree
theorem Inv.enter {h':Heap} {tk:Nat} {o:Obj} (I:Inv X pins σ H s) (hin:InnerIn X.N X.env.scope scope js) (hf:∀ b∈fp,FpOk X pins H b) (hfe:∀ b∈fp,b < s.heap.objs.size) (hC:s.heap.objs.size<=C) (hD:s.heap.objs.size<=D) (hDC:D≠C)
    (L:Celz X scope cl s C) (hown:∀ x c,cl.lookup x=some c->AJ scope x=true->∃ v,h'.IsCell c v)
    (k:∀ b u,s.heap.get? b=some u->h'.get? b=some u) {m:Str->Option Value} (hns:h'.Ns C m) (ho:h'.get? D=some o) (hoc:∀ v,o.data≠.cell v) :
    Inv (X.inner scope cl C s H fp) (pins++[(D,o)]) (blank js σ) H { s with heap:=h',toks:=tk } where
  ok:=I.innerOk hin hf hfe hC L
  os:=rfl
  bare:=I.bare
  base:=Un.kept k
  loc:=by
    refine ⟨m,hns,fun i x v e1 e2 e3=>?_⟩;obtain ⟨hj,e2⟩:=FP js σ i v e2;have free:scope.names.lookup x=some .free:=by
      rcases e3 with q | q | q
      · exact absurd (hin.jsl i x e1 (.inl (Cg (env:=X.env) (names:=scope.names) q))) hj
      · rcases Ac (scope:=scope) (env:=X.env) (names:=scope.names) (.inl q) with z | z
        · exact absurd (hin.jsl i x e1 (.inr z)) hj
        · exact z
      · rcases Ac (scope:=scope) (env:=X.env) (names:=scope.names) (.inr q) with z | z
        · exact absurd (hin.jsl i x e1 (.inr z)) hj
        · exact z
    have kx:=hin.fr x free;obtain ⟨m0,hn0,hl0⟩:=I.loc;obtain ⟨u,r,l⟩:=hl0 i x v e1 e2 (kx.elim (fun z=>.inr (.inl z)) fun z=>.inr (.inr z));refine ⟨u,r,?_⟩;rcases l with ⟨z,_⟩ | ⟨_,c,hc,hcell⟩
    · have z':X.env.scope.names.lookup x=some .local:=z;rcases kx with y | y
      · rw [y] at z';cases z'
      · rw [y] at z';cases z'
    · obtain ⟨c',hc'⟩:=L.fr x free;have:c'=c:=by
        have q:=L.old x c' hc' (by unfold AJ;rw [free]);rw [hc] at q;exact (Option.some.inj q).symm
      subst this;obtain ⟨oc,q1,q2⟩:=hcell;refine .inr ⟨?_,c',hc',oc,k _ _ q1,q2⟩;rcases e3 with q | q | q
      · have:=Cg (env:=X.env) (names:=scope.names) q;rw [free] at this;cases this
      · exact .inl q
      · exact .inr q
  cell:=fun x c e=>by
    cases q:AJ scope x with
    | true=>exact hown x c e q
    | false =>
      obtain ⟨v,oc,q1,q2⟩:=I.cell x c (L.old x c e q);exact ⟨v,oc,k _ _ q1,q2⟩
  free:=I.hok.fresh hC
  freeC:=fun x c e=>by
    cases q:AJ scope x with
    | true=>exact I.hok.fresh (L.own x c e q).1
    | false=>exact I.freeC x c (L.old x c e q)
  pin:=fun p hp=>by
    have hp':p∈X.pn++(pins++[(D,o)]):=hp;rw [<- List.append_assoc] at hp';rcases List.mem_append.mp hp' with z | z
    · obtain ⟨a1,a2,a3,a4,a5⟩:=I.pin p z;refine ⟨k _ _ a1,a2,Nat.ne_of_lt (Nat.lt_of_lt_of_le (Heap.lt_size a1) hC),fun q=>?_,a5⟩;rcases List.mem_cons.mp (I.stkSub p.1 q) with e | e
      · exact a3 e
      · exact a4 e
    · have e:p=(D,o):=by simpa using z
      subst e;exact ⟨ho,I.hok.fresh hD,hDC,I.notStk hD,hoc⟩
  hok:=I.hok.kept k
  len:=(blank_length js σ).trans I.len
theorem Inv.leave {Y:Cx} {H':Hp} {s':Shared} {τ:St} {pl:List (Addr×Obj)} {ys:List V} {its:List Value} {n:Nat} (I:Inv X pins σ H s) (hf:∀ b∈fp,FpOk X pins H b) (hY:Y=X.inner scope cl C s H fp) (J:Inv Y pl τ H' s') (hD:s.heap.objs.size<=D)
    (hHD:H' D=none) (hz:ys.length<=sizeLine) (hv:AD ys its) (ho:s'.heap.get? D=some { cls:=.type "list", data:=.seq its.toArray n }) :
    Inv X pins σ (upd H' D (.lst ys)) s':=by
  subst hY;have un:Un (Ng X.stack) fp H H' s.heap s'.heap:=J.base;have ne:∀ {b:Addr} {o:Obj},s.heap.get? b=some o->b≠D:=fun e=>Nat.ne_of_lt (Nat.lt_of_lt_of_le (Heap.lt_size e) hD)
  have nH:∀ {b:Addr} {o:HO},H' b=some o->b≠D:=fun e z=>by rw [z,hHD] at e;cases e
  have un':Un (Ng X.stack) fp H (upd H' D (.lst ys)) s.heap s'.heap:=
    ⟨un.keep,un.slot,fun b o e n' hx=>by rw [AL (ne e)];exact un.free b o e n' hx,un.there,fun b xs e=>by have:=un.tups b xs e;rw [AL (nH this)];exact this,
      fun b o u e=>by have:=un.frzs b o u e;rw [AL (nH this)];exact this,fun b ps e=>by obtain ⟨more,q⟩:=un.tbls b ps e;exact ⟨more,by rw [AL (nH q)];exact q⟩⟩
  have hok:Fi X.prog X.w (upd H' D (.lst ys)) s'.heap:=fun b u e=>by
    by_cases hb:b=D
    · subst hb;rw [Bh] at e;cases e;exact ⟨hz,its,n,hv,ho⟩
    · rw [AL hb] at e;exact (J.hok b u e).stay (fun _ _ _ q=>q) (fun c q=>by rw [AL (nH q)];exact q) fun c xs q=>by rw [AL (nH q)];exact q
  exact I.call' J.os un' hok J.bare fun b hb=>by
    obtain ⟨_,f1,_,f3,f4,f5⟩:=hf b hb;exact ⟨f3,f1,f4,f5⟩
end
section
end
section
end
section
variable {X:Cx}
def cb:V->Option Int->Option Int->Hp->VK->Prop:=fun x lo hi H Q=>∃ z,x=.str z/\z.length<=sizeLine/\Q (.str (Txt.slice z lo hi)) H
theorem YY:Py X cb:=by
 intro pins s σ H x v vl vu lo hi sl Q I rx hs pl pu h;obtain ⟨z,rfl,hz,q⟩:=h;obtain ⟨t,rfl⟩:=rx;have fin:∀ t' k,EP X pins σ Q (.str (Txt.slice z lo hi) t') { s with toks:=k }:=fun t' k=>⟨.str _,H,I.tok k,⟨_,rfl⟩,q⟩
 refine ⟨"str", _,F.slot_str_getitem.lookup,typeIs_str _ _ _,?_⟩
 obtain ⟨o,e1,e2,e3⟩:=hs;cases pl with
 | none =>
  cases pu with
  | none=>exact wpAny_getItem_str_slice (l:=none) (u:=none) (st:=none) ⟨o,e1,e2,e3⟩ rfl (post_val_or_str ⟨Nat.le_trans (Txt.slice_le z _ _) hz,fin⟩)
  | int j uj=>exact wpAny_getItem_str_slice (l:=none) (u:=some (j,uj)) (st:=none) ⟨o,e1,e2,e3⟩ rfl (post_val_or_str ⟨Nat.le_trans (Txt.slice_le z _ _) hz,fin⟩)
 | int i ui =>
  cases pu with
  | none=>exact wpAny_getItem_str_slice (l:=some (i,ui)) (u:=none) (st:=none) ⟨o,e1,e2,e3⟩ rfl (post_val_or_str ⟨Nat.le_trans (Txt.slice_le z _ _) hz,fin⟩)
  | int j uj=>exact wpAny_getItem_str_slice (l:=some (i,ui)) (u:=some (j,uj)) (st:=none) ⟨o,e1,e2,e3⟩ rfl (post_val_or_str ⟨Nat.le_trans (Txt.slice_le z _ _) hz,fin⟩)
theorem Lr {ys:List Str}:∀ {us:List Value},AD (ys.map V.str) us->StrsAre us ys:=by
 induction ys with
 | nil=>intro us r;rw [List.map_nil] at r;cases r;exact .nil
 | cons n ns ih =>
  intro us r;rw [List.map_cons] at r;cases r with
  | cons r1 r2 =>
   obtain ⟨t,e⟩:=r1;subst e;exact .cons n t (ih r2)
def RF (K:W.Frag):V->List V->Hp->VK->Prop:=fun x vs H Q=>∃ sep l ys,x=.str sep/\vs=[.ref l]/\Bq K H l (ys.map V.str)/\(ys.map (·.length)).sum+ys.length * sep.length<=16777216/\Q (.str (Txt.join sep ys)) H
theorem Vh:YD X "str.join" (RF X.K):=by
 intro pins s σ H x vs v us Q I rx rv h;obtain ⟨sep,l,ys,rfl,rfl,hl,hz,q⟩:=h;obtain ⟨t,rfl⟩:=rx;obtain ⟨u,rfl,ru⟩:=rv.one;cases ru;obtain ⟨its,r,p,_⟩:=I.list hl;exact join_list p.isList (by simpa using Lr r) hz fun t' k=>⟨.str _,H,I.tok k,⟨_,rfl⟩,q⟩
end
structure Fx (P:Program) (w:World) (K:W.Frag) (mg:Str->Option Value) (base:Heap) (k:Nat) (x:Str) (ps:List Str) (sp:Sp):Prop where
 ex:∃ (f:Addr) (fd:FuncData),FnOk P w K mg base Pp k f fd ps sp/\mg x=some (.ref f)/\W.keepIn K (.ref f)=true/\Binds K fd ps []
section
variable {X:Cx} {k j:Nat} {x:Str} {ps:List Str} {sp:Sp} {p pos:Pos} {e:Expr} {es:List Expr} {t:TA}
abbrev fP (sp:Sp) (t:TA):TE:=fun σ H Q=>t σ H fun vs H1=>sp vs H1 Q E0
theorem XY (F:Fx X.prog X.w X.K X.mg X.base k x ps sp) (hr:Room j X.A) (hkj:k<=j) (hg:Gl X x) (ha:PA X (e::es) t) (hdb:(x == ("__debug__" : Str))=false:=by decide)
    (he:starEach (e::es) X.env=(false,eval e X.env)::starEach es X.env:=by rfl) (hpl:(backTo pos (starEach es X.env)).any (·.1)=false:=by rfl):PE X (.Call (.Name x p) (e::es) [] pos) (fP sp t):=by
  obtain ⟨f,fd,G,hm,hk,hb⟩:=F.ex;have q:=VT (p:=p) (pos:=pos) G (hr.mono hkj) hg hm hk hb .nil Xa ha hdb he hpl;intro pins s σ H Q I h;refine q pins s σ H Q I ?_;show t σ H fun vs H1=>sp (vs++[]) H1 Q E0
  have e2:(fun (vs:List V) (H1:Hp)=>sp (vs++[]) H1 Q E0)=(fun vs H1=>sp vs H1 Q E0):=by
    funext vs H1;rw [List.append_nil]
  rw [e2];exact h
theorem Re (F:Fx X.prog X.w X.K X.mg X.base k x ps sp) (hr:Room j X.A) (hkj:k<=j) (hg:Gl X x) (hdb:(x == ("__debug__" : Str))=false:=by decide):PE X (.Call (.Name x p) [] [] pos) (fP sp UV):=by
 obtain ⟨f,fd,G,hm,hk,hb⟩:=F.ex;have q:=Rg (p:=p) (pos:=pos) G (hr.mono hkj) hg hm hk hb .nil Xa hdb;intro pins s σ H Q I h;exact q pins s σ H Q I h
end
section
variable {X:Cx}
def cy:R2:=fun x y H Q=>∃ i j,x=.str i/\y=.str j/\i.length+j.length<=sizeLine/\Q (.str (i++j)) H
def Ke (K:W.Frag):R2:=fun x y H Q=>(Pt fun i j=>.int (i+j)) x y H Q\/cy x y H Q\/cw x y H Q\/XW K x y H Q
theorem Va:CN X (binaryOp .Add) (Ke X.K):=Zl.or (MH.or (Zk.or VX))
theorem Tq {K:W.Frag} {i j:Int} {H:Hp} {Q:VK} (q:Q (.int (i+j)) H):Ke K (.int i) (.int j) H Q:=.inl ⟨i,j,rfl,rfl,q⟩
theorem To {K:W.Frag} {i j:Str} {H:Hp} {Q:VK} (h:i.length+j.length<=1000000) (q:Q (.str (i++j)) H):Ke K (.str i) (.str j) H Q:=.inr (.inl ⟨i,j,rfl,rfl,Nat.le_trans h (by decide),q⟩)
theorem Tp {K:W.Frag} {a b:Addr} {xs ys:List V} {H:Hp} {Q:VK} (ha:H a=some (.lst xs)) (hb:H b=some (.lst ys)) (h:xs.length+ys.length<=1000000) (q:∀ p,H p=none->Q (.ref p) (upd H p (.lst (xs++ys)))):Ke K (.ref a) (.ref b) H Q:=
 .inr (.inr (.inl ⟨a,b,xs,ys,rfl,rfl,ha,hb,Nat.le_trans h (by decide),q⟩))
theorem Uo {K:W.Frag} {p:Addr} {xs:List V} {i:Int} {v:V} {H:Hp} {Q:VK} (h:H p=some (.lst xs)) (e:EK xs i=some v) (q:Q v H):Yp K (.ref p) (.int i) H Q:=.inl ⟨p,xs,i,v,rfl,rfl,.inl (.inl h),e,q⟩
theorem Yo {K:W.Frag} {p:Addr} {xs:List V} {i:Int} {v:V} {H:Hp} {Q:VK} (h:Bq K H p xs) (e:EK xs i=some v) (q:Q v H):Yp K (.ref p) (.int i) H Q:=.inl ⟨p,xs,i,v,rfl,rfl,h,e,q⟩
theorem Um {K:W.Frag} {z:Str} {i:Int} {c:Nat} {H:Hp} {Q:VK} (h:z.length<=1000000) (e:EK z.cps.toList i=some c) (q:Q (.str ⟨#[c]⟩) H):Yp K (.str z) (.int i) H Q:=.inr (.inr ⟨z,i,c,rfl,rfl,Nat.le_trans h (by decide),e,q⟩)
theorem aG:Pz X (Yp X.K):=aF
def RC (K:W.Frag):V->Option Int->Option Int->Hp->VK->Prop:=fun x lo hi H Q=>cb x lo hi H Q\/cc K x lo hi H Q\/cZ K x lo hi H Q
theorem Ya:Py X (RC X.K):=YY.or (Ud.or YX)
theorem Ua {K:W.Frag} {z:Str} {lo hi:Option Int} {H:Hp} {Q:VK} (h:z.length<=1000000) (q:Q (.str (Txt.slice z lo hi)) H):RC K (.str z) lo hi H Q:=.inl ⟨z,rfl,Nat.le_trans h (by decide),q⟩
theorem Qo {K:W.Frag} {a:Addr} {xs:List V} {lo hi:Option Int} {H:Hp} {Q:VK} (h:Bq K H a xs) (q:∀ p,H p=none->Q (.ref p) (upd H p (.lst (Ei xs lo hi)))):RC K (.ref a) lo hi H Q:=.inr (.inl ⟨a,xs,rfl,h,q⟩)
theorem Ub {K:W.Frag} {a:Addr} {xs:List V} {lo hi:Option Int} {H:Hp} {Q:VK} (h:H a=some (.lst xs)) (q:∀ p,H p=none->Q (.ref p) (upd H p (.lst (Ei xs lo hi)))):RC K (.ref a) lo hi H Q:=Qo (.inl (.inl h)) q
theorem Ui:Wy X RD:=set_list
def OX (K:W.Frag):List V->Hp->VK->Prop:=fun xs H Q=>∃ x n,xs=[x]/\fJ K x H n/\Q (.int n) H
theorem PX:BC X (.builtin "len") (OX X.K):=Sv
theorem Ox {K:W.Frag} {z:Str} {H:Hp} {Q:VK} (h:z.length<=1000000) (q:Q (.int z.length) H):OX K [.str z] H Q:=⟨_,_,rfl,⟨Nat.le_trans h (by decide),rfl⟩,q⟩
theorem Ry {K:W.Frag} {p:Addr} {xs:List V} {H:Hp} {Q:VK} (h:Bq K H p xs) (q:Q (.int xs.length) H):OX K [.ref p] H Q:=⟨_,_,rfl,.inl ⟨xs,h,rfl⟩,q⟩
theorem Vl {K:W.Frag} {p:Addr} {xs:List V} {H:Hp} {Q:VK} (h:H p=some (.lst xs)) (q:Q (.int xs.length) H):OX K [.ref p] H Q:=Ry (.inl (.inl h)) q
end
theorem ET {H:Hp} {p:Addr} (h:H p=none) (o:HO):Pm H (upd H p o):=fun b u q=>by rw [AL (Bc q h)];exact q
section
variable {X:Cx}
theorem gR (K:W.Frag) (h:X.K=K:=by rfl):Pz X (Yp K):=by subst h;exact aG
theorem PV (K:W.Frag) (h:X.K=K:=by rfl):BC X (.builtin "len") (OX K):=by subst h;exact PX
theorem Rt (K:W.Frag) (h:X.K=K:=by rfl):YD X "str.join" (RF K):=by subst h;exact Vh
def NR (K:W.Frag):List V->Hp->VK->Prop:=fun xs H Q=>∃ p ys,xs=[.ref p]/\(Bq K H p ys\/Ds K H p ys)/\∀ l,H l=none->Q (.ref l) (upd H l (.lst ys))
theorem Mk (K:W.Frag) (h:X.K=K:=by rfl):BC X (.type "list") (NR K):=by subst h;exact Jk
def Kc (K:W.Frag):List V->Hp->VK->Prop:=fun xs H Q=>∃ p ys,xs=[.ref p]/\((Bq K H p ys/\∀ l,H l=none->Q (.ref l) (upd H l (.tup ys)))\/(Ds K H p ys/\Q (.ref p) H))
theorem LQ (K:W.Frag) (h:X.K=K:=by rfl):BC X (.type "tuple") (Kc K):=by subst h;exact Hd
end
noncomputable def tx (l:List Nat):Str:=⟨l.toArray⟩
theorem UR (z:Str):z=tx z.cps.toList:=by cases z;simp [tx]
theorem Fk (l:List Nat):(tx l).cps.toList=l:=by simp [tx]
theorem Bz (l:List Nat):(tx l).length=l.length:=by simp [tx,Str.length]
theorem Lj (a b:List Nat):tx a++tx b=tx (a++b):=by
 show (⟨(tx a).cps++(tx b).cps⟩:Str)=_;simp [tx]
theorem YN {a b:List Nat} (h:tx a=tx b):a=b:=by
 have:=congrArg (fun z:Str=>z.cps.toList) h;simpa [tx] using this
def PL (l:List Nat) (lo hi:Option Int):List Nat:=(l.drop (HT.sIx l.length 0 lo)).take (HT.sIx l.length l.length hi - HT.sIx l.length 0 lo)
theorem RX (l:List Nat) (a k:Nat) (h:a+k<=l.length):((List.range k).map fun j=>a+j).filterMap (fun i=>l[i]?)=(l.drop a).take k:=by
  apply List.ext_getElem?;intro i
  by_cases hi:i < k
  · rw [List.getElem?_take_of_lt hi,List.getElem?_drop];have e:(List.map (fun j=>a+j) (List.range k)).filterMap (fun i=>l[i]?)=(List.range k).map fun j=>l[a+j]!:=by
      rw [List.filterMap_map];rw [show (fun i=>l[i]?)∘(fun j=>a+j)=fun j=>l[a+j]? from rfl];have:∀ (r:List Nat),(∀ j∈r,a+j < l.length)->r.filterMap (fun j=>l[a+j]?)=r.map fun j=>l[a+j]!:=by
        intro r
        induction r with
        | nil=>intro _;rfl
        | cons x r ih =>
          intro hx;have hxl:=hx x List.mem_cons_self;rw [List.filterMap_cons,List.getElem?_eq_getElem hxl,List.map_cons,ih fun j hj=>hx j (List.mem_cons_of_mem _ hj)];simp [hxl]
      exact this _ fun j hj=>by have:=List.mem_range.mp hj;omega
    rw [e,List.getElem?_map,List.getElem?_range hi];have hl:a+i < l.length:=by omega
    simp [hl]
  · have e1:(((List.range k).map fun j=>a+j).filterMap (fun i=>l[i]?)).length<=k:=Nat.le_trans (List.length_filterMap_le _ _) (by simp);rw [List.getElem?_eq_none (by omega),List.getElem?_eq_none (by rw [List.length_take];omega)]
theorem cl (i:Int) (n:Nat):max 0 (min (if i < 0 then i+(n:Int) else i) (n:Int))=(((if i < 0 then (i+(n:Int)).toNat else min i.toNat n):Nat):Int):=by
 by_cases h:i < 0
 ·simp only [h,if_true];omega
 ·simp only [h,if_false];omega
theorem QK (l:List Nat) (lo hi:Option Int):Txt.slice (tx l) lo hi=tx (PL l lo hi):=by
 have hlen:(tx l).length=l.length:=Bz l;have key:Builtin.Str.strSliceIndices lo hi 1 l.length=(List.range (HT.sIx l.length l.length hi - HT.sIx l.length 0 lo)).map fun j=>HT.sIx l.length 0 lo+j:=by
  have key0:Builtin.Str.strSliceIndices lo hi 1 l.length=sliceRange ((HT.sIx l.length 0 lo:Nat):Int) ((HT.sIx l.length l.length hi:Nat):Int) 1:=by
   unfold Builtin.Str.strSliceIndices;rcases lo with _ | i<;>rcases hi with _ | j<;>simp only [show (1:Int) > 0 by decide,if_true,HT.sIx,cl,Int.natCast_zero]<;>rfl
  rw [key0];unfold sliceRange;simp only [show (1:Int) > 0 by decide,if_true];generalize HT.sIx l.length 0 lo=a;generalize HT.sIx l.length l.length hi=b;have cnt:(if (a:Int) < (b:Int) then ((b:Int) - (a:Int)+1 - 1) / 1 else 0).toNat=b - a:=by
   split<;>omega
  rw [cnt];apply List.map_congr_left;intro j _;omega
 have hle:HT.sIx l.length l.length hi<=l.length:=HT.sIx_le _ _ (Nat.le_refl _) _;have hlo:HT.sIx l.length 0 lo<=l.length:=HT.sIx_le _ _ (Nat.zero_le _) _;unfold Txt.slice;rw [hlen,key];unfold PL;generalize HT.sIx l.length 0 lo=a at *;generalize HT.sIx l.length l.length hi=b at *;have e2:(List.map (fun j=>a+j) (List.range (b - a))).filterMap (fun i=>(tx l).cps[i]?)=(l.drop a).take (b - a):=by
  have e3:(fun i:Nat=>(tx l).cps[i]?)=fun i=>l[i]?:=by funext i;simp [tx]
  rw [e3]
  by_cases hab:a<=b
  ·exact RX l a (b - a) (by omega)
  ·have:b - a=0:=by omega
   rw [this];simp
 split
 ·rename_i hc;simp only [List.length_map,List.length_range,Bool.and_eq_true,beq_iff_eq] at hc;have h0:a=0:=by omega
  have h1:b=l.length:=by omega
  subst h0 h1;simp
 ·rw [e2];rfl
def small (c:Nat):Prop:=97<=c/\c<=122
theorem eqV_str (a b:List Nat):eqV (.str (tx a)) (.str (tx b))=decide (a=b):=by
 unfold eqV
 by_cases h:a=b
 ·subst h;simp
 ·rw [decide_eq_false h];have:tx a≠tx b:=fun e=>h (YN e)
  simpa using this
section
variable {X:Cx}
def Yq (K:W.Frag):List V->Hp->VK->Prop:=fun xs H Q=>∃ x T t b,xs=[x,.ty T]/\TyOf K H x t/\W.kitOne K t (.type T)=some b/\Q (.bl b) H
theorem PY (K:W.Frag) (hK:X.K=K:=by rfl):BC X (.builtin "isinstance") (Yq K):=by
 subst hK;intro pins s σ H xs us Q I r h;obtain ⟨x,T,t,b,rfl,ty,e,q⟩:=h;obtain ⟨u,v,rfl,ru,rv⟩:=r.two;cases rv;exact Oy I ru ty e fun tk=>⟨.bl b,H,I.tok tk,rfl,q⟩
theorem AD.get':∀ {xs:List V} {us:List Value} {i:Nat} {u:Value},AD xs us->us[i]?=some u->∃ x,xs[i]?=some x/\RelV x u
 | _,_,_,_,.nil,e=>by simp at e
 | _,_,0,_,.cons r _,e=>by simp at e;subst e;exact ⟨_,rfl,r⟩
 | _,_,i+1,u,.cons _ t,e=>by
  obtain ⟨x,h1,h2⟩:=AD.get' (i:=i) (u:=u) t (by simpa using e);exact ⟨x,by simpa using h1,h2⟩
def cx (K:W.Frag):List V->Hp->VK->Prop:=fun xs H Q=>∃ (p:Addr) (bs:List Bool),xs=[.ref p]/\Bq K H p (bs.map V.bl)/\Q (.bl (bs.all id)) H
theorem Nz {bs:List Bool} {us:List Value} (r:AD (bs.map V.bl) us) {i:Nat} {v:Value} (e:us[i]?=some v):∃ b,bs[i]?=some b/\v=.bool b:=by
 obtain ⟨x,e1,e2⟩:=r.get' e;rw [List.getElem?_map] at e1;cases q:bs[i]? with
 | none=>rw [q] at e1;cases e1
 | some b =>
  rw [q] at e1;have:V.bl b=x:=Option.some.inj e1;subst this;exact ⟨b,rfl,e2⟩
theorem Ga:∀ bs:List Bool,((List.range bs.length).all fun i=>(bs[i]?).getD true)=bs.all id
 | []=>rfl
 | b::bs=>by
  rw [List.length_cons,List.range_succ_eq_map,List.all_cons,List.all_map,List.all_cons];have ih:=Ga bs;rw [<- ih];rfl
theorem JJ {h h':Heap} {o:Obj} (hk:∀ b x,b∉[h.objs.size]->(h.push o).get? b=some x->h'.get? b=some x):∀ b x,h.get? b=some x->h'.get? b=some x:=
 fun b x e=>hk b x (fun hm=>by rw [List.mem_singleton.mp hm] at e;exact Nat.lt_irrefl _ (Heap.lt_size e)) (Heap.get?_push_of_some _ e)
theorem Pc (K:W.Frag) (hK:X.K=K:=by rfl) (hc:X.calm=true:=by rfl):BC X (.builtin "all") (cx K):=by
  subst hK;intro pins s σ H xs us Q I r h;obtain ⟨p,bs,rfl,hp,q⟩:=h;obtain ⟨u,rfl,rx⟩:=vals1 r;cases rx;obtain ⟨its,rv,pl,hz⟩:=I.list hp;have hl:=pl.isList;have hlt:p < s.heap.objs.size:=by obtain ⟨_,e,_⟩:=hl;exact Heap.lt_size e
  refine call_all_walk (wpAny_pyIter_list hl ?_);refine ⟨s.heap.objs.size,[s.heap.objs.size,p],[s.heap.objs.size],its.toArray.size,_,_,fun i=>(bs[i]?).getD true,rfl,Walks.list (A:=X.A.in1) (I.ok.hd hc) _ p (Nat.ne_of_lt hlt) its.toArray,
    ⟨⟨_,Heap.get?_push_size _ rfl,rfl,rfl⟩,hl.push _⟩,fun i v s' Q' E' hP hQ=>?_,fun h' tk hk=>?_⟩
  · obtain ⟨b,e,rfl⟩:=Nz rv (i:=i) (v:=v) (by simpa using hP);simp only [e,Option.getD_some] at hQ;exact wpAny_truthy_bool hQ
  · have e:((List.range its.toArray.size).all fun i=>(bs[i]?).getD true)=bs.all id:=by
      rw [List.size_toArray,<- rv.length,List.length_map];exact Ga bs
    rw [e];exact ⟨.bl _,H,I.kept (JJ hk),rfl,q⟩
def eqVs:List V->List V->Bool
 | [],[]=>true
 | x::xs,y::ys=>eqV x y && eqVs xs ys
 | _,_=>false
def cY (K:W.Frag):V->Option Int->Option Int->Hp->VK->Prop:=fun x lo hi H Q=>∃ a xs,x=.ref a/\Ds K H a xs/\(HT.sIx xs.length 0 lo=0/\HT.sIx xs.length xs.length hi=xs.length)/\Q (.ref a) H
theorem Uc:Py X (cY X.K):=by
 intro pins s σ H x v vl vu lo hi sl Q I rx hs pl pu h;obtain ⟨a,xs,rfl,hx,hw,q⟩:=h;cases rx;obtain ⟨its,r,ht,hz⟩:=I.tuple hx;have hlen:its.toArray.size=xs.length:=by rw [List.size_toArray];exact r.length.symm
 refine ⟨"tuple", _,PyProof.Rows.slot_tuple_getitem.lookup,ht.typeIs,?_⟩
 obtain ⟨os,hos,hcs,hds⟩:=id hs
 have hTs:s.TypeIs (.ref sl) "slice" := ⟨os,hos,hcs⟩
 unfold getItem
 try with_reducible refine wpAny_holding ?_
 first | refine wpAny_bind (wpAny_pure ?_) | skip
 refine wpAny_bind (wpAny_sequenceKey ht.typeIs (by decide) ?_)
 refine wpAny_bind (wpAny_callSpecial?_slot (name:=Str.ofString "__getitem__") ht.typeIs PyProof.Rows.slot_tuple_getitem
  (wpAny_call_entry PyProof.Rows.slot_tuple_getitem ht.typeIs entry_tuple_getitem ?_ (args_tuple_getitem _ _)))
 show wpAny _ _ (Builtin.Tuple.tupleItemsOf (.ref a) >>= _) _ _ s;refine wpAny_bind (tupleItemsOf_ ht ?_);refine wpAny_bind (wpAny_typeOf hTs ?_);rw [if_pos (by decide)];refine wpAny_bind (HT.sliceApplied_gen hs pl pu ?_);have hyes:((((HT.sIx its.toArray.size 0 lo:Nat):Int) == 0 && (1:Int) == 1 && (HT.sIx its.toArray.size its.toArray.size hi - HT.sIx its.toArray.size 0 lo) == its.toArray.size)=true):=by
  rw [hlen,hw.1,hw.2];simp
 show wpAny _ _ (if (((HT.sIx its.toArray.size 0 lo:Nat):Int) == 0 && (1:Int) == 1 && (HT.sIx its.toArray.size its.toArray.size hi - HT.sIx its.toArray.size 0 lo) == its.toArray.size)=true then _ else _) _ _ s;rw [if_pos hyes];have fin:EP X pins σ Q (.ref a) s:=⟨.ref a,H,I,rfl,q⟩;refine wpAny_bind (m:=Builtin.Tuple.tupleIsExact (Value.ref a)) ?_;unfold Builtin.Tuple.tupleIsExact;refine wpAny_bind (wpAny_typeOf ht.typeIs (wpAny_pure ?_));rw [if_pos (by decide)];exact wpAny_bind (wpAny_rule (wpAny_pure ⟨_,rfl,wpAny_pure fin⟩))
end
end L2
namespace L2
open PySem PySem.Spec PyProof.Rows PySem.SeqAt
theorem HR (l:Addr) (items:Array Value) (n:Nat) (dd:Option Addr) (sl:Array (Option Value)) (x:Value) (e:Value->Bool) (j:Nat) (hj:j < items.size) 
    (hit:e items[j]=true) (hno:∀ m (hm:m < items.size),m < j->e items[m]=false) :
    Meets (Builtin.«tuple.index» ⟨[.ref l,x],[]⟩)
      (fun A R s=>s.heap.get? l=some { cls:=.type "tuple", dict:=dd,data:=.seq items n,slots:=sl }/\(∀ y,y∈items->EqAt A.in1 s y x (e y))/\R (.ok (.ret (.int j s.toks))) { s with toks:=s.toks+1 }):=
  .of_wp fun prog w A R s h=>by
    obtain ⟨hp,g,d,tk,os⟩:=s;obtain ⟨hl,he,h⟩:=h;have f2:=AutoSeq1.sub_tuple_tuple
    wp_walk using wpAny_loadPart' hl
    let f:Nat->(Option Fin×Unit)->Sem (ForInStep (Option Fin×Unit)):=fun i __s =>
            match items[i]? with
            | some y=>do
              let __do_lift <- eqBool y x
              if __do_lift=true then do
                  let __do_lift <- retInt ↑i
                  pure (ForInStep.done (some __do_lift,()))
                else pure (ForInStep.yield (none,()))
            | x=>pure (ForInStep.yield (none,()))
    have key:wpAny (model prog w) A.in1 (forIn [:min items.size items.size] ((none,()):Option Fin×Unit) f) (fun a s' =>
      wpAny (model prog w) A.in1
        (match a.fst with
        | some r=>pure r
        | none=>do
          rule "tuple.index.not-found"
          raiseErrorWords "ValueError" "tuple.index(x): x not in tuple")
        (fun fin s'=>∃ v,fin=Fin.done (Flow.ret v)/\R (Except.ok (Flow.ret v)) s')
        (fun e s'=>R (Except.error e) s') s') (fun e s'=>R (Except.error e) s') { heap:=hp,gens:=g,drawn:=d,toks:=tk,os:=os }:=by
      rw [Std.Legacy.Range.forIn_eq_forIn_range'];simp only [Std.Legacy.Range.size,Nat.sub_zero,Nat.add_sub_cancel,Nat.div_one,Nat.min_self];refine wpAny_forIn_list _ (fun rest b s'=>b=(none,())/\s'=⟨hp,g,d,tk,os⟩/\∃ i,rest=List.range' i (items.size - i)/\i<=j) _ ?_ ?_ _ _ ⟨rfl,rfl,0,by simp,Nat.zero_le _⟩
      · rintro y rest b s' ⟨hb,rfl,i,hr,hi⟩;have hlt:i < items.size:=by omega
        obtain ⟨hy,hrest⟩:y=i/\rest=List.range' (i+1) (items.size - (i+1)):=by
          have e:items.size - i=(items.size - (i+1))+1:=by omega
          rw [e,List.range'_succ] at hr;injection hr with h1 h2
          exact ⟨h1,h2⟩
        subst hy;show wpAny _ _ (match items[y]? with
            | some z=>do
              let __do_lift <- eqBool z x
              if __do_lift=true then do
                  let __do_lift <- retInt ↑y
                  pure (ForInStep.done (some __do_lift,()))
                else pure (ForInStep.yield (none,()))
            | x=>pure (ForInStep.yield (none,()))) _ _ _
        rw [Array.getElem?_eq_getElem hlt];refine wpAny_bind (he _ (Array.getElem_mem hlt) prog w _ _ ?_)
        by_cases hyj:y=j
        · subst hyj;rw [hit]
          wp_walk
          exact ⟨_,rfl,h⟩
        · rw [hno y hlt (by omega)]
          wp_walk
          exact ⟨rfl,rfl,y+1,hrest,by omega⟩
      · rintro b s' ⟨hb,rfl,i,hr,hi⟩;have:(List.range' i (items.size - i)).length=0:=by rw [<- hr];rfl
        rw [List.length_range'] at this;omega
    refine cast ?_ key;congr 1;funext a s';obtain ⟨a1,a2⟩:=a;cases a1 with
    | none=>rfl
    | some r=>rfl
section
variable {X:Cx}
def gI (r:V->List V->Hp->VK->Prop) (to:TE) (t:TA):TE:=fun σ H Q=>to σ H fun x H1=>(∃ p xs,x=.ref p/\H1 p=some (.tup xs))/\t σ H1 fun xs H2=>r x xs H2 Q
theorem dM {o e:Expr} {es:List Expr} {to:TE} {t:TA} {name:Str} {apos cpos:Pos} {id:String} {r:V->List V->Hp->VK->Prop} (pa:PlainAttrs "tuple") (slot:Slot "tuple" name id) (hty:typeOf (.builtin id)=pure (.type "method_descriptor")) (hm:bT X id r) (ho:PE X o to) (ha:PA X (e::es) t)
    (hbase:attributeBase o name X.env (eval o X.env)=eval o X.env:=by rfl)
    (hfew:((backTo cpos (starEach (e::es) X.env)).all (fun x=>!x.1) && (backToKw cpos (keywordEach [] X.env)).all (fun x=>x.1.isSome)
      && decide ((e::es).length+([]:List Keyword).length+(if ([]:List Keyword).isEmpty then 0 else 1) < 30))=true:=by rfl)
    (hline:(apos.endLine == cpos.line)=true:=by rfl) (hs:starEach (e::es) X.env=(false,eval e X.env)::starEach es X.env:=by rfl) (hplain:(backTo cpos (starEach es X.env)).any (·.1)=false:=by rfl) :
    PE X (.Call (.Attribute o name apos) (e::es) [] cpos) (gI r to t):=by
  intro pins s σ H Q I h;refine wpAny_Call_method_late hbase hfew hline rfl (AZ (ho pins s σ H _ I h) fun v s1 ⟨x,H1,I1,r1,ty,q1⟩=>?_);obtain ⟨p,xs,rfl,hp⟩:=ty;cases r1;obtain ⟨_,its,_,ob,h1,hc,hd,_⟩:=I1.hok p _ hp
  refine ⟨"tuple", id,pa,slot,hty,⟨ob,h1,hc⟩,fun a e=>by cases e;exact ⟨ob,h1,hd⟩,?_⟩
  have hA:=ha cpos pins s1 σ H1 _ I1 q1;rw [hs] at hA ⊢;refine Calls.callWith_builtin (by show (false || (backTo cpos (starEach es X.env)).any (·.1))=false;rw [hplain]<;>rfl) (Calls.evalArgs_plain ?_);exact AZ hA fun us s2 ⟨vs,H2,I2,r2,q2⟩=>hm pins s2 σ H2 (.ref p) vs (.ref p) us Q I2 rfl r2 q2
def XX (K:W.Frag):R2:=fun x y H Q=>∃ a b ys,x=.ref a/\y=.ref b/\Ds K H a []/\Ds K H b ys/\Q (.ref b) H
theorem VY:CN X (binaryOp .Add) (XX X.K):=by
  intro pins s σ H x y v u Q I rx ry h;obtain ⟨a,b,ys,rfl,rfl,ha,hb,q⟩:=h;cases rx;cases ry;obtain ⟨its,r1,p1,_⟩:=I.tuple ha;obtain ⟨its2,r2,p2,_⟩:=I.tuple hb;cases r1;obtain ⟨⟨cls,dd,data,sl⟩,ho,hc,n,hd⟩:=id p1;obtain ⟨⟨cls2,dd2,data2,sl2⟩,ho2,hc2,n2,hd2⟩:=id p2;simp only at hc hd hc2 hd2;subst hc hd hc2 hd2;exact concat_meets ⟨_,ho,rfl⟩ ⟨_,ho2,rfl⟩ noFill_tuple_add seq_tuple_add PySem.F.slot_tuple_add PySem.F.entry_tuple_add (PySem.F.args_tuple_add_2 _ _)
      (tuple_addW0 a b _ its2.toArray n n2 dd dd2 sl sl2 (by simp)) ⟨ho,ho2,⟨.ref b,H,I,rfl,q⟩⟩
def Kd (K:W.Frag):R2:=fun x y H Q=>Ke K x y H Q\/XX K x y H Q
theorem VZ (K:W.Frag) (h:X.K=K:=by rfl):CN X (binaryOp .Add) (Kd K):=by subst h;exact Va.or VY
theorem Tn {K:W.Frag} {i j:Int} {H:Hp} {Q:VK} (q:Q (.int (i+j)) H):Kd K (.int i) (.int j) H Q:=.inl (Tq q)
theorem Ti {K:W.Frag} {i j:Str} {H:Hp} {Q:VK} (h:i.length+j.length<=1000000) (q:Q (.str (i++j)) H):Kd K (.str i) (.str j) H Q:=.inl (To h q)
theorem Tj {K:W.Frag} {a b:Addr} {xs ys:List V} {H:Hp} {Q:VK} (ha:H a=some (.lst xs)) (hb:H b=some (.lst ys)) (h:xs.length+ys.length<=1000000) (q:∀ p,H p=none->Q (.ref p) (upd H p (.lst (xs++ys)))):Kd K (.ref a) (.ref b) H Q:=.inl (Tp ha hb h q)
def OW (K:W.Frag):V->Option Int->Option Int->Hp->VK->Prop:=fun x lo hi H Q=>RC K x lo hi H Q\/cY K x lo hi H Q
theorem gL (K:W.Frag) (h:X.K=K:=by rfl):Py X (OW K):=by subst h;exact Ya.or Uc
theorem UY {K:W.Frag} {z:Str} {lo hi:Option Int} {H:Hp} {Q:VK} (h:z.length<=1000000) (q:Q (.str (Txt.slice z lo hi)) H):OW K (.str z) lo hi H Q:=.inl (Ua h q)
theorem YW {K:W.Frag} {a:Addr} {xs:List V} {lo hi:Option Int} {H:Hp} {Q:VK} (h:Bq K H a xs) (q:∀ p,H p=none->Q (.ref p) (upd H p (.lst (Ei xs lo hi)))):OW K (.ref a) lo hi H Q:=.inl (Qo h q)
theorem UZ {K:W.Frag} {a:Addr} {xs:List V} {lo hi:Option Int} {H:Hp} {Q:VK} (h:H a=some (.lst xs)) (q:∀ p,H p=none->Q (.ref p) (upd H p (.lst (Ei xs lo hi)))):OW K (.ref a) lo hi H Q:=.inl (Ub h q)
def RB:V->List V->Hp->VK->Prop:=fun x vs H Q=>∃ l,x=.str (tx l)/\vs=[]/\(∀ c∈l,c < 128)/\l.length<=1000000/\Q (.str (tx (l.map up1))) H
theorem Rq:YD X "str.upper" RB:=by
 intro pins s σ H x vs v us Q I rx rv h;obtain ⟨l,rfl,rfl,hA,hz,q⟩:=h;obtain ⟨t,rfl⟩:=rx;cases rv.zero;have e:Txt.upper (tx l)=tx (l.map up1):=by
  rw [upper_ascii (by rw [Fk];exact hA)];simp [tx]
 refine SC.upper (by rw [e,Bz,List.length_map];exact decide_eq_false (by have:sizeLine=16777216:=sizeLine_eq;omega)) ⟨.str (tx (l.map up1)),H,I.tok _,⟨_,by rw [e]⟩,q⟩
end
end L2
namespace L2
open PySem PySem.Spec PyProof.Rows
section
variable {prog:Program} {w:World} {A:Around} {E:Value->Shared->Prop}
theorem IQ {it t:Addr} {items:Array Value} (hne:t≠it):∀ (n i:Nat) (s:Shared) (Q:List Value->Shared->Prop),s.heap.IsListIter it t i->s.heap.IsList t items->i+n<=items.size ->
    (∀ h',h'.IsListIter it t (i+n)->Heap.SameBut it s.heap h'->Q ((items.toList.drop i).take n) { s with heap:=h' })->wpAny (model prog w) A (draw (.ref it) n) Q E s
  | 0,i,s,Q,hit,_,_,hQ=>by
    show wpAny _ _ (pure []) Q E s;exact wpAny_pure (by simpa using hQ s.heap hit (Heap.SameBut.refl ..))
  | n+1,i,s,Q,hit,ht,hle,hQ=>by
    have hlt:i < items.size:=by omega
    show wpAny _ _ (pyNext (.ref it) >>= _) Q E s;refine wpAny_bind (wpAny_pyNext_list_item hit ht (x:=items[i]) (by simp [hlt]) fun h₁ hit₁ hs₁=>?_);refine wpAny_bind (wpAny_holding (IQ hne n (i+1) _ _ hit₁ (ht.extBut hs₁.extBut hne) (by omega) fun h₂ hit₂ hs₂=>wpAny_pure ?_));have hd:items.toList.drop i=items[i]::items.toList.drop (i+1):=by simp [List.drop_eq_getElem_cons,hlt]
    have:=hQ h₂ (by rw [show i+(n+1)=i+1+n by omega];exact hit₂) (hs₁.trans hs₂);rw [hd,List.take_succ_cons] at this;exact this
theorem Eo {s:Shared} {t:Addr} {items:Array Value} {Q:List Value->Shared->Prop} (hh:A.handled=none) (ht:s.heap.IsList t items)
    (hQ:∀ h',Heap.ExtBut s.heap.objs.size s.heap h'->Q items.toList { s with heap:=h' }):wpAny (model prog w) A (unpackItems (.ref t) items.size none) Q E s:=by
  have hlt:t≠s.heap.objs.size:=by obtain ⟨o,ho,_⟩:=ht;exact Nat.ne_of_lt (Heap.lt_size ho)
  unfold unpackItems;refine wpAny_bind ?_
  · unfold notIterableAtAll;refine wpAny_bind (wpAny_specialOf ht.typeIs PySem.slot_list_iter.lookup ?_);refine wpAny_pure ?_;simp only [Bool.false_eq_true,if_false];refine wpAny_bind (wpAny_holding (wpAny_pyIter_list ht ?_));refine wpAny_bind (wpAny_holding (IQ hlt items.size 0 _ _ ⟨_,Heap.get?_push_size _ rfl,rfl,rfl⟩ (ht.push _) (by omega) fun h₁ hit₁ hs₁=>?_));have hall:List.take items.size (List.drop 0 items.toList)=items.toList:=by
      rw [List.drop_zero];exact List.take_of_length_le (by simp)
    rw [hall];rw [if_neg (by simp)];have ht₁:h₁.IsList t items:=(ht.push _).extBut hs₁.extBut hlt;refine wpAny_bind (wpAny_holding (wpAny_pyNext_list_end hh hit₁ ht₁ (by simp) fun h₂ he₂=>?_));simp only [Option.isSome_none,Bool.false_eq_true,if_false];refine wpAny_pure (hQ h₂ fun b o hb e=>he₂ b o hb (hs₁.extBut b o hb (Heap.get?_push_of_some _ e)))
theorem KI {s:Shared} {t:Addr} {items:Array Value} {targets:List (Bool×(Value->Sem Unit))} {Q:Unit->Shared->Prop} (hh:A.handled=none) (ht:s.heap.IsList t items)
    (hn:targets.length=items.size) (hstar:targets.findIdx? (·.1)=none)
    (h:∀ h',Heap.ExtBut s.heap.objs.size s.heap h'->wpAny (model prog w) A (assignInOrder (targets.map (·.2)) items.toList) Q E { s with heap:=h' }) :
    wpAny (model prog w) A (unpack (.ref t) targets) Q E s:=by
  unfold unpack;rw [hn,hstar];exact wpAny_bind (wpAny_holding (Eo hh ht h))
end
section
variable {X:Cx}
abbrev aN (n:Nat) (t:Mv):TG:=fun v σ H Q=>∃ a xs,v=.ref a/\H a=some (.lst xs)/\xs.length=n/\t xs σ H Q
theorem ZO {es:List Expr} {k:Nat} {t:Mv} {n:Nat} {pos:Pos} (hc:X.calm=true) (h:bc X es t)
    (hn:(assignEach es X.env).length=n:=by rfl) (hst:(assignEach es X.env).findIdx? (·.1)=none:=by rfl):PG X (.Tuple es k pos) (aN n t):=by
  intro pins s σ H v u Q I r hw;obtain ⟨a,xs,e1,hq,hl,hw⟩:=hw;subst e1;cases r;obtain ⟨its,rv,ht,hz⟩:=I.list (.inl (.inl hq));rw [assign_Tuple];refine wpAny_bind (wpAny_standAt (KI (I.ok.hd hc) ht.isList (by simp [hn,<- hl,rv.length]) hst fun h' hx=>?_));have I1:Inv X pins σ H { s with heap:=h' }:=I.kept (t':=s.toks) fun b o e=>hx b o (Nat.ne_of_lt (Heap.lt_size e)) e
  exact h pins _ σ H xs _ Q I1 (by simpa using rv) hw
theorem Vs {n:Nat} {js:List Nat} {u:Mv} (hu:Pn js u):QA js (aN n u):=by
 rintro x σ H Q ⟨a,xs,e,hq,hl,q⟩;exact ⟨a,xs,e,hq,hl,hu _ _ _ _ q⟩
end
end L2
namespace L2
open PySem PySem.Spec PyProof.Rows PySem.SeqAt
inductive D where
 | fl (v:V)
 | tup (ds:List D)
 | lst (ds:List D)
mutual
noncomputable def eqD:D->D->Bool
 | .fl a,.fl b=>eqV a b
 | .tup a,.tup b=>eqDs a b
 | .lst a,.lst b=>eqDs a b
 | _,_=>false
noncomputable def eqDs:List D->List D->Bool
 | [],[]=>true
 | x::xs,y::ys=>eqD x y && eqDs xs ys
 | _,_=>false
end
mutual
noncomputable def D.dep:D->Nat
 | .fl _=>0
 | .tup ds=>depL ds+1
 | .lst ds=>depL ds+1
noncomputable def depL:List D->Nat
 | []=>0
 | d::ds=>max d.dep (depL ds)
end
mutual
noncomputable def Is (H:Hp):V->D->Prop
 | x,.fl v=>x=v/\Ee v=true
 | x,.tup ds=>∃ a xs,x=.ref a/\H a=some (.tup xs)/\IsL H xs ds
 | x,.lst ds=>∃ a xs,x=.ref a/\H a=some (.lst xs)/\IsL H xs ds
noncomputable def IsL (H:Hp):List V->List D->Prop
 | [],[]=>True
 | x::xs,d::ds=>Is H x d/\IsL H xs ds
 | _,_=>False
end
theorem IsL.inv {H:Hp} {x:V} {xs:List V} {es:List D} (h:IsL H (x::xs) es):∃ d ds,es=d::ds/\Is H x d/\IsL H xs ds:=by
 cases es with
 | nil=>unfold IsL at h;exact h.elim
 | cons d ds=>unfold IsL at h;exact ⟨d,ds,rfl,h.1,h.2⟩
theorem IsL.length {H:Hp}:∀ {xs:List V} {ds:List D},IsL H xs ds->xs.length=ds.length
 | [],[],_=>rfl
 | [],_::_,h=>by unfold IsL at h;exact h.elim
 | _::_,[],h=>by unfold IsL at h;exact h.elim
 | x::xs,d::ds,h=>by unfold IsL at h;rw [List.length_cons,List.length_cons,IsL.length h.2]
mutual
theorem Is.inj {H:Hp}:∀ {d e:D} {x:V},Is H x d->Is H x e->d=e
 | .fl v,e,x,h,k=>by
  unfold Is at h;obtain ⟨rfl,hf⟩:=h;cases e with
  | fl u=>unfold Is at k;rw [k.1]
  | tup es=>unfold Is at k;obtain ⟨a,xs,rfl,_⟩:=k;cases hf
  | lst es=>unfold Is at k;obtain ⟨a,xs,rfl,_⟩:=k;cases hf
 | .tup ds,e,x,h,k=>by
  unfold Is at h;obtain ⟨a,xs,rfl,h1,h2⟩:=h;cases e with
  | fl u=>unfold Is at k;obtain ⟨k1,k2⟩:=k;rw [<- k1] at k2;cases k2
  | tup es =>
   unfold Is at k;obtain ⟨b,ys,e,k1,k2⟩:=k;cases e;rw [h1] at k1;cases k1;rw [IsL.inj h2 k2]
  | lst es=>unfold Is at k;obtain ⟨b,ys,e,k1,k2⟩:=k;cases e;rw [h1] at k1;cases k1
 | .lst ds,e,x,h,k=>by
  unfold Is at h;obtain ⟨a,xs,rfl,h1,h2⟩:=h;cases e with
  | fl u=>unfold Is at k;obtain ⟨k1,k2⟩:=k;rw [<- k1] at k2;cases k2
  | lst es =>
   unfold Is at k;obtain ⟨b,ys,e,k1,k2⟩:=k;cases e;rw [h1] at k1;cases k1;rw [IsL.inj h2 k2]
  | tup es=>unfold Is at k;obtain ⟨b,ys,e,k1,k2⟩:=k;cases e;rw [h1] at k1;cases k1
theorem IsL.inj {H:Hp}:∀ {ds es:List D} {xs:List V},IsL H xs ds->IsL H xs es->ds=es
 | [],es,[],h,k=>by
  cases es with
  | nil=>rfl
  | cons e es=>unfold IsL at k;exact k.elim
 | [],_,_::_,h,_=>by unfold IsL at h;exact h.elim
 | _::_,_,[],h,_=>by unfold IsL at h;exact h.elim
 | d::ds,es,x::xs,h,k=>by
  unfold IsL at h;obtain ⟨e,es',rfl,k1,k2⟩:=k.inv;rw [Is.inj h.1 k1,IsL.inj h.2 k2]
end
theorem eqV_refl {v:V} (h:Ee v=true):eqV v v=true:=by
 cases v<;>first | rfl | (simp [eqV];done) | cases h
mutual
theorem eqD_refl {H:Hp}:∀ {d:D} {x:V},Is H x d->eqD d d=true
 | .fl v,x,h=>by unfold Is at h;unfold eqD;exact eqV_refl h.2
 | .tup ds,x,h=>by unfold Is at h;obtain ⟨_,_,_,_,h2⟩:=h;unfold eqD;exact eqDs_refl h2
 | .lst ds,x,h=>by unfold Is at h;obtain ⟨_,_,_,_,h2⟩:=h;unfold eqD;exact eqDs_refl h2
theorem eqDs_refl {H:Hp}:∀ {ds:List D} {xs:List V},IsL H xs ds->eqDs ds ds=true
 | [],_,_=>by unfold eqDs;rfl
 | _::_,[],h=>by unfold IsL at h;exact h.elim
 | d::ds,x::xs,h=>by
  unfold IsL at h;unfold eqDs;rw [eqD_refl h.1,eqDs_refl h.2];rfl
end
section
variable {X:Cx} {pins:List (Addr×Obj)} {σ:St} {H:Hp} {s:Shared}
def eAt (ds es:List D) (i:Nat):Bool:=match ds[i]?,es[i]? with | some a,some b=>eqD a b | _,_=>true
theorem eAt_of {ds es:List D} {i:Nat} {a b:D} (h1:ds[i]?=some a) (h2:es[i]?=some b):eAt ds es i=eqD a b:=by unfold eAt;rw [h1,h2]
end
end L2
namespace L2
open PySem PySem.Spec PyProof.Rows
inductive T where
 | leaf (k:Str) (v:V)
 | op (s:Str) (m n:T)
 | many (k w:Str) (ts:List T)
 | lett (x:Str) (a b:T)
 | loop (i:Str) (n:T) (x:Str) (a b:T)
 | pick (n:T) (ts:List T)
noncomputable abbrev sD (x:Str):D:=.fl (.str x)
mutual
noncomputable def T.toD:T->D
 | .leaf k v=>.tup [sD k,.fl v]
 | .op s m n=>.tup [sD "op", sD s,m.toD,n.toD]
 | .many k w ts=>.tup [sD k,sD w,.tup (toDs ts)]
 | .lett x a b=>.tup [sD "let", sD x,a.toD,b.toD]
 | .loop i n x a b=>.tup [sD "loop", sD i,n.toD,sD x,a.toD,b.toD]
 | .pick n ts=>.tup [sD "pick", n.toD,.tup (toDs ts)]
noncomputable def toDs:List T->List D
 | []=>[]
 | t::ts=>t.toD::toDs ts
end
end L2
namespace L2
open PySem PySem.Spec PyProof.Rows PySem.SeqAt
section
end
end L2
namespace L2
open PySem PySem.Spec PyProof.Rows
section
variable {prog:Program} {w:World} {A:Around} {E:Value->Shared->Prop} {s:Shared}
theorem MO:typeLookup (.type "list_reverseiterator") "__len__" = pure none:=by rw [typeLookup_type,builtinLookup_eq_fast];kernel_rfl
theorem Rw:typeLookup (.type "list_reverseiterator") "__length_hint__" = pure (some (.builtin "list_reverseiterator.__length_hint__")):=by rw [typeLookup_type,builtinLookup_eq_fast];kernel_rfl
theorem Qx {r:Addr} {Q:Bool->Shared->Prop} (hT:s.TypeIs (.ref r) "list_reverseiterator") (h:Q false s):wpAny (model prog w) A (Builtin.List.listLengthHint (.ref r)) Q E s:=by
 unfold Builtin.List.listLengthHint;refine wpAny_bind (wpAny_specialOf hT MO ?_);refine wpAny_bind (wpAny_specialOf hT Rw ?_)
 generalize hid:("list_reverseiterator.__length_hint__" : String)=id0
 wp_delta
 rw [show splitId id0=some ("list_reverseiterator", "__length_hint__") from by subst hid;decide +kernel]
 subst hid
 refine wpAny_bind (wpAny_isInstance (T := "list_reverseiterator") (b:=true) hT (by rw [isSubtype_type];kernel_rfl) ?_)
 refine wpAny_ite_split (fun hab=>absurd hab (by decide)) (fun _=>?_);refine wpAny_ite_split (fun _=>?_) (fun hab=>absurd (by decide +kernel) hab);refine wpAny_ite_split (fun hab=>absurd hab (by decide +kernel)) (fun _=>?_);exact wpAny_pure h
theorem Qy {p l:Addr} {items:Array Value} {Q:Value->Shared->Prop} (hh:A.handled=none) (hne:l≠p) (hit:s.heap.IsRevIter p l ((items.size:Int) - 1)) (hl:s.heap.IsList l items) (hn:items.size<=sizeLine)
    (hQ:∀ h' tk c',(∀ b o,b≠p->s.heap.get? b=some o->h'.get? b=some o)->h'.get? s.heap.objs.size=some { cls:=.type "list", dict:=none,data:=.seq items.reverse c',slots:=#[] }->Q (.ref s.heap.objs.size) { s with heap:=h',toks:=tk }) :
    wpAny (model prog w) A (call (.type "list") [.ref p]) Q E s:=by
  have hpl:p < s.heap.objs.size:=by obtain ⟨o,e,_⟩:=hit;exact Heap.lt_size e
  have hll:l < s.heap.objs.size:=by obtain ⟨o,e,_⟩:=hl;exact Heap.lt_size e
  refine callType_codes (Q₁:=fun obj s₁=>obj=.ref s.heap.objs.size/\s₁={ s with heap:=s.heap.push { cls:=.type "list", data:=.seq #[] } }) PySem.F.called_list (PySem.F.typeCall_list_1 _) PySem.F.entry_list_init
    (code_list_new _ ⟨rfl,rfl⟩) fun obj s₁ h₁=>?_
  obtain ⟨rfl,rfl⟩:=h₁
  have hS:(s.heap.push { cls:=.type "list", data:=.seq #[] }).get? s.heap.objs.size=some { cls:=.type "list", data:=.seq #[] }:=Heap.get?_push_size _ rfl
  generalize hSe:s.heap.objs.size=S at *;have hSp:S≠p:=Nat.ne_of_gt hpl;have hSl:S≠l:=Nat.ne_of_gt hll;refine ⟨⟨_,hS,rfl⟩,PySem.F.args_list_init_2 _ _,?_⟩;show wpAny _ _ (do let old <- Builtin.List.listItems (.ref S);Builtin.List.listUpdate (.ref S) (fun _=>#[]);letGo old.toList.reverse;Builtin.List.listExtendWith (.ref S) (.ref p) .none) _ _ _;refine wpAny_bind ?_;unfold Builtin.List.listItems;refine wpAny_bind (wpAny_seqItems hS rfl (wpAny_pure ?_));show wpAny _ _ (updateSeq S (fun _=>#[]) >>= fun _=>letGo (#[]:Array Value).toList.reverse >>= fun _=>Builtin.List.listExtendWith (.ref S) (.ref p) .none) _ _ _;refine wpAny_bind (wpAny_updateSeq hS rfl ?_);have hS₂:=Heap.get?_update_self (Obj.mapSeq (fun _=>(#[]:Array Value))) hS rfl
  have oth:∀ b o,b≠S->s.heap.get? b=some o->((s.heap.push { cls:=.type "list", data:=.seq #[] }).update S (Obj.mapSeq (fun _=>(#[]:Array Value)))).get? b=some o:=
    fun b o hb e=>(Heap.get?_update_other _ _ (Ne.symm hb)).trans (Heap.get?_push_of_some _ e)
  refine wpAny_bind (wpAny_letGo ?_)
  generalize (s.heap.push { cls:=.type "list", data:=.seq #[] }).update S (Obj.mapSeq (fun _=>(#[]:Array Value)))=h1 at hS₂ oth ⊢
  have hit1:h1.IsRevIter p l ((items.size:Int) - 1):=hit.at fun o e=>oth p o hSp.symm e
  have hl1:h1.IsList l items:=hl.at fun o e=>oth l o hSl.symm e
  unfold Builtin.List.listExtendWith
  refine wpAny_bind (wpAny_typeOf (T := "list_reverseiterator") (s:={ s with heap:=h1 }) hit1.typeIs ?_)
  have e1:Builtin.List.listSameRef (.ref S) (.ref p)=false:=by simp [Builtin.List.listSameRef,hSp]
  have e2:(Value.type "list_reverseiterator" == Value.type "list")=false:=by decide
  have e3:(Value.type "list_reverseiterator" == Value.type "tuple")=false:=by decide
  simp only [e1,e2,e3,Bool.or_false,Bool.false_eq_true,if_false];refine wpAny_bind (wpAny_pyIter_revIter (s:={ s with heap:=h1 }) hit1 ?_);refine wpAny_bind (wpAny_holding (Qx (s:={ s with heap:=h1 }) hit1.typeIs ?_));refine wpAny_ite_split (fun hab=>absurd hab (by decide +kernel)) (fun _=>?_);have W:=Walks.listRev (prog:=prog) (w:=w) (A:=A.in1.in1) hh p l hne items;refine wpAny_pure ⟨plainId_quiet PySem.F.plain_extend_loop _,codeAny_extend_loopS (A:=A.in1) W.toS hn S (by simp [hSp,hSl]) _ items.size 0 { s with heap:=h1 } #[] _ rfl (Nat.zero_le _) ⟨Nat.zero_le _,by simpa using hit1,hl1⟩ hS₂ (ItemsOf.nil _) fun s' acc' c' hm hS' hacc=>?_⟩;rw [Moved.eq_with hm];have er:acc'=items.reverse:=by
    apply Array.ext
    · rw [hacc.1,Array.size_reverse]
    · intro i h1 h2;have this:items[items.size - 1 - i]?=some acc'[i]:=hacc.2 i (acc'[i]) (Array.getElem?_eq_getElem h1);rw [Array.getElem_reverse];have h3:i < items.size:=by rw [<- hacc.1];exact h1
      rw [Array.getElem?_eq_getElem (by omega)] at this;exact (Option.some.inj this).symm
  subst er;refine ⟨rfl,hQ s'.heap s'.toks c' (fun b o hb e=>hm.heap b o (fun hmem=>?_) (oth b o ?_ e)) hS'⟩
  · rcases List.mem_cons.mp hmem with e' | hmem
    · exact absurd (Heap.lt_size e) (by rw [hSe,e'];exact Nat.lt_irrefl _)
    · exact hb (List.mem_singleton.mp hmem)
  · intro e';exact absurd (Heap.lt_size e) (by rw [hSe,e'];exact Nat.lt_irrefl _)
end
section
variable {X:Cx} {e:Expr} {te:TE} {p1 p2 pos1 pos2:Pos}
abbrev QU (K:W.Frag) (te:TE):TE:=fun σ H Q=>te σ H fun v H1=>∃ a xs,v=.ref a/\Bq K H1 a xs/\∀ l,H1 l=none->Q (.ref l) (upd H1 l (.lst xs.reverse))
theorem EN:∀ {xs:List V} {us:List Value},AD xs us->AD xs.reverse us.reverse
 | _,_,.nil=>.nil
 | _,_,.cons (a:=x) (b:=u) (l₁:=xs) (l₂:=us) r t=>by
  rw [List.reverse_cons,List.reverse_cons];exact AD.append (EN t) (.cons r .nil)
theorem MF (hc:X.calm=true) (hgL:Gl X "list") (hmL:X.mg "list" = none) (hgR:Gl X "reversed") (hmR:X.mg "reversed" = none) (he:PE X e te)
    (hs1:starEach [.Call (.Name "reversed" p2) [e] [] pos2] X.env=(false,eval (.Call (.Name "reversed" p2) [e] [] pos2) X.env)::starEach [] X.env:=by rfl)
    (hpl1:(backTo pos1 (starEach [] X.env)).any (·.1)=false:=by rfl)
    (hs2:starEach [e] X.env=(false,eval e X.env)::starEach [] X.env:=by rfl)
    (hpl2:(backTo pos2 (starEach [] X.env)).any (·.1)=false:=by rfl) :
    PE X (.Call (.Name "list" p1) [.Call (.Name "reversed" p2) [e] [] pos2] [] pos1) (QU X.K te):=by
  intro pins s σ H Q I h;refine wpAny_Call_Name_kw (BR I hgL hmL PyProof.Rows.Boot.«list» ?_ (by decide) (by decide));refine PyProof.Rows.callWith_type1 ?_ hs1 hpl1;rw [hs1]
  show wpAny _ _ (spliced ((false,eval (.Call (.Name "reversed" p2) [e] [] pos2) X.env)::backTo pos1 (starEach [] X.env))) _ _ s
  refine Calls.spliced_cons ?_;refine wpAny_Call_Name_kw (BR I hgR hmR PyProof.Rows.Boot.«reversed» ?_ (by decide) (by decide));refine PyProof.Rows.callWith_type1 ?_ hs2 hpl2;rw [hs2];show wpAny _ _ (spliced ((false,eval e X.env)::backTo pos2 (starEach [] X.env))) _ _ s;refine Calls.spliced_cons (AZ (he pins s σ H _ I h) fun v s1 ⟨x,H1,I1,r1,q1⟩=>?_);obtain ⟨a,xs,ex,hq,q⟩:=q1;subst ex;cases r1;obtain ⟨its,rv,pl,hz⟩:=I1.list hq;have hlen:=rv.length;refine Calls.spliced_nil ?_;have hil:=pl.isList;refine call_reversed_list hil ?_;refine Calls.spliced_nil ?_;have hal:a < s1.heap.objs.size:=by obtain ⟨o,e,_⟩:=hil;exact Heap.lt_size e
  refine Qy (s:={ s1 with heap:=s1.heap.push (revObj a ((its.toArray.size:Int) - 1)) }) (I1.ok.hd hc) (Nat.ne_of_lt hal) ⟨_,Heap.get?_push_size _ rfl,rfl,rfl⟩ (hil.at fun o e=>Heap.get?_push_of_some _ e) (by simp only [List.size_toArray];omega) fun h' tk c' kp eh=>?_
  have kp':∀ b o,s1.heap.get? b=some o->h'.get? b=some o:=fun b o e=>kp b o (Nat.ne_of_lt (Heap.lt_size e)) (Heap.get?_push_of_some _ e)
  have hsz:(s1.heap.push (revObj a ((its.toArray.size:Int) - 1))).objs.size=s1.heap.objs.size+1:=size_push' _ _;refine ⟨.ref _,_,I1.laid (t':=tk) kp' (by rw [hsz];exact Nat.le_succ _) (show Al X.prog X.w _ h' _ (.lst xs.reverse) from ⟨by rw [List.length_reverse];exact hz,its.reverse,c',EN rv,by rw [eh];simp⟩),rfl,q _ (I1.hok.fresh (by rw [hsz];exact Nat.le_succ _))⟩
end
section
variable {X:Cx} {pins:List (Addr×Obj)} {σ:St} {H:Hp} {s:Shared} {h':Heap}
theorem Inv.turnedL {t':Nat} {ch:List Addr} (I:Inv X pins σ H s) (k:∀ b o,b∉ch->s.heap.get? b=some o->h'.get? b=some o) (hf:∀ b∈ch,FpOk X pins H b):Inv X pins σ H { s with heap:=h',toks:=t' }:=by
 have nit:∀ b u,H b=some u->b∉ch:=fun b u e z=>by have:=(hf b z).1;rw [e] at this;cases this
 refine I.step (g':=s.gens) (d':=s.drawn) (ch:=ch) (fun b hb=>?_) (fun b o _ _ hc e _=>k b o hc e) (fun b o _ _ hc e _=>⟨o.slots,k b o hc e⟩) (fun _ _ _ _ n=>n)
  (fun b o hc e=>⟨o,k b o hc e⟩) (fun _ _ e=>e) (fun _ _ _ e=>e) (fun b ps e=>⟨#[],by rw [e];simp⟩) (fun m hm=>?_) (fun b u e=>?_) I.bare
 ·obtain ⟨f0,f1,f2,f3,f4,f5⟩:=hf b hb;exact ⟨f3,f1,f4,f5⟩
 ·obtain ⟨o,es,ep,ho,r⟩:=hm;exact ⟨o,es,ep,k _ o (fun z=>(hf _ z).2.1 rfl) ho,r⟩
 ·refine (I.hok b u e).stay (fun c v hc q=>k c v ?_ q) (fun _ q=>q) fun _ _ q=>q
  rcases hc with z | z
  ·rw [z];exact nit b u e
  ·exact nit c _ z
end
section
end
noncomputable def fv (hi:Int) (n:Nat):It:=⟨fun i _=>i < n,fun i H x H'=>H'=H/\x=.int (hi - i),fun i _=>n<=i⟩
theorem OL {P:Program} {w:World} {K:W.Frag} {tg:Expr} (it:Addr) (hi:Int) (n:Nat):Turn P w K tg (fv hi n) [it] it (fun i h=>IsRangeIter h it (hi+(i:Nat) * (-1)) ((n:Int) - (i:Nat)) (-1)) where
 mem:=by simp
 obj:=fun i h st b hb=>by
  have e:b=it:=by simpa using hb
  subst e;exact ⟨_,st,fun v z=>by
   have z':Data.fields _=Data.cell v:=z;cases z'⟩
 keep:=fun i h h' st k=>k it (by simp) _ st
 item:=by
  intro X hP hw hK hc i pins s σ H E I hf st hg;subst hP hw hK;obtain ⟨f0,f1,f2,f3,f4,f5⟩:=hf it (by simp);have W:=Walks.range (prog:=X.prog) (w:=X.w) (I.ok.hd hc) it hi (-1) n;refine W.item i s _ _ hg st fun v h' tk hv st' kk=>?_
  obtain ⟨t,rfl⟩:=hv;have I1:Inv X pins σ H { s with heap:=h',toks:=tk }:=I.turned (fun b o hb e=>kk b o (by simpa using hb) e) f0 f1 f3 f4 f5
  refine ⟨_,rfl,II (s:={ s with heap:=h',toks:=tk }) (n := "range_iterator") st' rfl rfl (by decide) ⟨.int (hi - i),H,I1,⟨t,?_⟩,⟨rfl,rfl⟩,st',fun b hb=>(hf b hb).1⟩⟩
  congr 1;omega
 done:=by
  intro X hP hw hK hc i pins s σ H E I hf st hg;subst hP hw hK;obtain ⟨f0,f1,f2,f3,f4,f5⟩:=hf it (by simp);exact wpAny_pyNext_range_end (I.ok.hd hc) st (by have:n<=i:=hg;omega) fun h' eb=>⟨rfl,I.turned (t':=s.toks) (fun b o hb e=>eb b o hb e) f0 f1 f3 f4 f5⟩
 self:=fun _ _ _ _ _ st h=>wpAny_pyIter_rangeiter st h
theorem DS (a b:Int):Builtin.Range.rangeSize a b (-1)=if a > b then a - b else 0:=by
 unfold Builtin.Range.rangeSize;rw [if_neg (by decide)];split
 ·rw [show -(-1:Int)=1 by decide,Int.ediv_one];omega
 ·rfl
theorem Lu {a b:Int} (ha:-(2 ^ 62)<=a) (ha':a < 2 ^ 62) (hb:-(2 ^ 62)<=b) (hb':b < 2 ^ 62):Builtin.Range.small a b (-1)=true:=by
 unfold Builtin.Range.small;rw [DS];simp only [Builtin.Range.rangeFitsLong,Bool.and_eq_true,Bool.or_eq_true,decide_eq_true_eq,beq_iff_eq,show ¬ ((-1:Int) > 0) by decide,if_false];split<;>omega
section
variable {X:Cx} {tg:Expr}
abbrev dr (ta:TA):TI:=fun σ H R=>ta σ H fun vs H1=>∃ i j:Int,vs=[.int i,.int j,.int (-1)]/\(-1000000<=i/\i < 1000000/\-1000000<=j/\j < 1000000)/\R (fv i (i - j).toNat) H1
theorem Od {a b c:Expr} {ta:TA} {p pos:Pos} (hg:Gl X "range") (hm:X.mg "range" = none) (ha:PA X [a,b,c] ta) (hs:starEach [a,b,c] X.env=[(false,eval a X.env),(false,eval b X.env),(false,eval c X.env)]:=by rfl) (hs2:starEach [b,c] X.env=[(false,eval b X.env),(false,eval c X.env)]:=by rfl) :
    PI X tg (.Call (.Name "range" p) [a,b,c] [] pos) (dr ta):=by
  intro pins s σ H R I h;refine Call_ (BR I hg hm boot_range (PyProof.Rows.callWith_type1 (AZ (ha pos pins s σ H _ I h) fun us s1 ⟨vs,H1,I1,r1,q1⟩=>?_) (by rw [hs,hs2]) (by rw [hs2];rfl)));obtain ⟨i,j,e,⟨q1,q2,q3,q4⟩,q⟩:=q1;subst e;cases r1 with
  | cons r rr =>
    cases rr with
    | cons r' rr =>
      cases rr with
      | cons r'' rr =>
        cases rr;obtain ⟨t,rfl⟩:=r;obtain ⟨t',rfl⟩:=r';obtain ⟨t'',rfl⟩:=r'';refine call_range_3 (by decide) ?_ (Or.inl (PyProof.noPylong_small (by omega)));refine wpAny_pyIter_range (IsRange.new ..) (Lu (by omega) (by omega) (by omega) (by omega)) ?_
        have I2:Inv X pins σ H1 { s1 with heap:=s1.heap.push { cls:=.type "range", data:=.fields #[.int i t,.int j t',.int (-1) t''] } }:=I1.kept (t':=s1.toks) fun b o e=>Heap.get?_push_of_some _ e
        refine ⟨(s1.heap.push { cls:=.type "range", data:=.fields #[.int i t,.int j t',.int (-1) t''] }).objs.size,[(s1.heap.push { cls:=.type "range", data:=.fields #[.int i t,.int j t',.int (-1) t''] }).objs.size],_,_,H1,rfl,
          I2.kept (t':=s1.toks) fun b o e=>Heap.get?_push_of_some _ e,OL _ i (i - j).toNat,?_,fun b hb=>?_,q⟩
        · have e1:i+((0:Nat):Int) * (-1)=i:=by simp
          have e2:(((i - j).toNat:Nat):Int) - ((0:Nat):Int)=Builtin.Range.rangeSize i j (-1):=by rw [DS];split<;>omega
          show IsRangeIter _ _ (i+((0:Nat):Int) * (-1)) ((((i - j).toNat:Nat):Int) - ((0:Nat):Int)) (-1);rw [e1,e2];exact Heap.get?_push_size _ rfl
        · have e:b=(s1.heap.push { cls:=.type "range", data:=.fields #[.int i t,.int j t',.int (-1) t''] }).objs.size:=by simpa using hb
          subst e;exact I2.fpOk (Nat.le_refl _) (I2.hok.fresh (Nat.le_refl _))
end
section
variable {X:Cx}
def XU (K:W.Frag):List V->Hp->VK->Prop:=fun xs H Q=>∃ (p:Addr) (ns:List Int),xs=[.ref p]/\Bq K H p (ns.map V.int)/\0 < ns.length/\∀ M,M∈ns->(∀ a,a∈ns->a<=M)->Q (.int M) H
theorem PR (K:W.Frag) (hK:X.K=K:=by rfl) (hc:X.calm=true:=by rfl):BC X (.builtin "max") (XU K):=by
 subst hK;intro pins s σ H xs us Q I r h;obtain ⟨p,ns,rfl,hp,hne,q⟩:=h;obtain ⟨u,rfl,rx⟩:=vals1 r;cases rx;obtain ⟨its,rv,pl,hz⟩:=I.list hp;have hl:=pl.isList;have hi:=MU rv;obtain ⟨xs,e⟩:=hi.allInts.items;have hns:ns=xs.toList.map (·.1):=by
  rw [<- hi.numsOf,<- nums_intItems,<- e]
 have hsz:0 < xs.size:=by
  have h3:=hne;rw [hns,List.length_map,Array.length_toList] at h3;exact h3
 rw [e] at hl;refine max_intList (I.ok.hd hc) hl hsz fun v h' tk hv hk=>?_
 obtain ⟨t,rfl⟩:=intItems_at hv;obtain ⟨h1,h2⟩:=argBest_gt (numAt xs) (xs.size - 1);refine ⟨.int _,H,I.kept hk,⟨t,rfl⟩,q _ ?_ fun a ha=>?_⟩
 ·rw [hns,numAt_eq];exact getD_mem (by rw [List.length_map,Array.length_toList];omega)
 ·rw [hns] at ha;obtain ⟨j,hj,rfl⟩:=mem_getD ha;rw [List.length_map,Array.length_toList] at hj;rw [<- numAt_eq];exact h2 j (by omega)
end
section
end
section
end
section
end
section
end
section
end
section
end
section
end
section
end
section
end
section
end
section
end
section
end
section
end
section
end
section
end
section
end
section
end
section
end
section
end
section
end
noncomputable def cs (z:Str):List Nat:=z.cps.toList
noncomputable def jn (sep:List Nat):List (List Nat)->List Nat
 | []=>[]
 | x::ys=>x++(ys.flatMap fun y=>sep++y)
theorem bh (sep:List Nat):∀ ys:List (List Nat),Txt.join (tx sep) (ys.map tx)=tx (jn sep ys):=by
 intro ys;have h:Txt.join (tx sep) (ys.map tx)=Str.join (tx sep) (ys.map tx):=by simpa using join_plain_closes (tx sep) (ys.map tx)
 rw [h];have:∀ (x:List Nat) (ys:List (List Nat)),Str.join (tx sep) ((x::ys).map tx)=tx (x++(ys.flatMap fun y=>sep++y)):=by
  intro x ys
  induction ys generalizing x with
  | nil=>simp [Str.join]
  | cons y ys ih =>
   show tx x++tx sep++Str.join (tx sep) ((y::ys).map tx)=_;rw [ih y,Lj,Lj];simp
 cases ys with
 | nil=>rfl
 | cons x ys=>exact this x ys
theorem YM (ys:List (List Nat)):((ys.map tx).map (·.length)).sum=(ys.map List.length).sum:=by
 rw [List.map_map];congr 1
end L2
namespace R
open PySem L2
inductive Dv where
 | non | bl (b:Bool) | int (i:Int) | str (x:List Nat) | tup (xs:List Dv) | lst (xs:List Dv) | dic (kvs:List (Dv×Dv)) | ref (k:Nat) | scr (ns:List Int) | ty (n:String) | mtp (ls:List (List Nat)) | dti (kvs:List (List Int×Int))
 deriving Inhabited
structure G where
 Z:Addr->Prop
 μ:List Addr
noncomputable abbrev Fp:=Addr->Prop
def Disj (P Q:Fp):Prop:=∀ a,P a->Q a->False
def nop:Fp:=fun _=>False
def Lk (g:G) (H:Hp) (o:Nat) (a:Addr) (vs:List V):Prop:=H a=some (.lst vs)/\(o=0->g.Z a)/\(o≠0->¬ g.Z a)
def Scr (K:W.Frag) (H:Hp) (a:Addr) (ns:List Int):Prop:=(∃ o,H a=some (.frz o (.lst (ns.map V.int)))) \/
    ∃ (o:Obj) (its:Array Value) (n:Nat),K.lookup a=some o/\o.cls=.type "list" /\ o.dict=none/\o.data=.seq its n/\its.size<=sizeLine/\AD (ns.map V.int) its.toList
theorem Scr.sq {K:W.Frag} {H:Hp} {a:Addr} {ns:List Int} (h:Scr K H a ns):Bq K H a (ns.map V.int):=h.elim (fun h=>.inl (.inr h)) .inr
def Mtp (K:W.Frag) (a:Addr) (ls:List (List Nat)):Prop:=∃ (o:Obj) (its:Array Value) (n:Nat),K.lookup a=some o/\o.cls=.type "tuple" /\ o.data=.seq its n/\its.size<=sizeLine/\AD (ls.map fun l=>V.str (tx l)) its.toList
def encD (kvs:List (List Int×Int)):List (List Ii×V):=kvs.map fun p=>(p.1.map Sum.inl,V.int p.2)
mutual
noncomputable def Rep (K:W.Frag) (g:G) (H:Hp):Nat->Dv->V->Fp->Prop
 | _,.non,v,P=>v=.non/\∀ a,¬ P a
 | _,.bl b,v,P=>v=.bl b/\∀ a,¬ P a
 | _,.int i,v,P=>v=.int i/\∀ a,¬ P a
 | _,.str l,v,P=>v=.str (tx l)/\∀ a,¬ P a
 | o,.tup ds,v,P=>∃ a vs,v=.ref a/\H a=some (.tup vs)/\Reps K g H (o - 1) ds vs P
 | o,.lst ds,v,P=>∃ a vs P',v=.ref a/\Lk g H o a vs/\Reps K g H (o - 1) ds vs P'/\¬ P' a/\∀ b,P b↔(o≠0/\b=a)\/P' b
 | _,.dic _,_,_=>False
 | _,.ref k,v,P=>(∃ a,g.μ[k]?=some a/\v=.ref a)/\∀ a,¬ P a
 | _,.scr ns,v,P=>(∃ a,v=.ref a/\Scr K H a ns)/\∀ a,¬ P a
 | _,.ty n,v,P=>v=.ty n/\∀ a,¬ P a
 | _,.mtp ls,v,P=>(∃ a,v=.ref a/\Mtp K a ls)/\∀ a,¬ P a
 | o,.dti kvs,v,P=>∃ a,v=.ref a/\H a=some (.dT (encD kvs))/\(o=0->g.Z a)/\(o≠0->¬ g.Z a)/\∀ b,P b↔(o≠0/\b=a)
noncomputable def Reps (K:W.Frag) (g:G) (H:Hp):Nat->List Dv->List V->Fp->Prop
 | _,[],vs,P=>vs=[]/\∀ a,¬ P a
 | o,d::ds,vs,P=>∃ v r P1 P2,vs=v::r/\Rep K g H o d v P1/\Reps K g H o ds r P2/\Disj P1 P2/\∀ a,P a↔P1 a\/P2 a
end
def Zd (g:G) (H:Hp):Prop:=∀ a,g.Z a->H a≠none
structure Step (g:G) (P:Fp) (H:Hp) (g':G) (P':Fp) (H':Hp):Prop where
 keep:∀ b o,H b=some o->¬ P b->H' b=some o
 dom:∀ b,H' b=none->H b=none
 zm:∀ a,g.Z a->g'.Z a
 zn:∀ a,g'.Z a->g.Z a\/P a\/H a=none
 mu:∃ r,g'.μ=g.μ++r
 nw:∀ a,P' a->P a\/H a=none
 zd:Zd g H->Zd g' H'
theorem Step.refl {g:G} {P:Fp} {H:Hp}:Step g P H g P H:=⟨fun _ _ h _=>h,fun _ h=>h,fun _ h=>h,fun _ h=>.inl h,⟨[],by simp⟩,fun _ h=>.inl h,fun h=>h⟩
theorem Step.trans {g g1 g2:G} {P P1 P2:Fp} {H H1 H2:Hp} (a:Step g P H g1 P1 H1) (b:Step g1 P1 H1 g2 P2 H2):Step g P H g2 P2 H2:=by
 refine ⟨fun c o h n=>?_,fun c h=>a.dom c (b.dom c h),fun c h=>b.zm c (a.zm c h),fun c h=>?_,?_,fun c h=>?_,fun z=>b.zd (a.zd z)⟩
 ·refine b.keep c o (a.keep c o h n) fun z=>?_
  rcases a.nw c z with z | z
  ·exact n z
  ·rw [h] at z;cases z
 ·rcases b.zn c h with z | z | z
  ·exact a.zn c z
  ·exact (a.nw c z).elim (fun q=>.inr (.inl q)) fun q=>.inr (.inr q)
  ·exact .inr (.inr (a.dom c z))
 ·obtain ⟨r1,e1⟩:=a.mu;obtain ⟨r2,e2⟩:=b.mu;exact ⟨r1++r2,by rw [e2,e1,List.append_assoc]⟩
 ·rcases b.nw c h with z | z
  ·exact a.nw c z
  ·exact .inr (a.dom c z)
theorem Step.sub {g g':G} {P Q P' Q':Fp} {H H':Hp} (s:Step g P H g' P' H') (h1:∀ a,P a->Q a) (h2:∀ a,Q' a->P' a):Step g Q H g' Q' H':=
 ⟨fun b o h n=>s.keep b o h fun z=>n (h1 b z),s.dom,s.zm,fun a h=>(s.zn a h).elim .inl fun z=>.inr (z.elim (fun q=>.inl (h1 a q)) .inr),s.mu,fun a h=>(s.nw a (h2 a h)).elim (fun q=>.inl (h1 a q)) .inr,s.zd⟩
theorem Step.less {g g':G} {P P' Q':Fp} {H H':Hp} (s:Step g P H g' P' H') (h2:∀ a,Q' a->P' a):Step g P H g' Q' H':=s.sub (fun _ q=>q) h2
theorem Step.frame {g g':G} {P P' R:Fp} {H H':Hp} (s:Step g P H g' P' H'):Step g (fun a=>P a\/R a) H g' (fun a=>P' a\/R a) H':=
 ⟨fun b o h n=>s.keep b o h fun z=>n (.inl z),s.dom,s.zm,fun a h=>(s.zn a h).elim .inl fun z=>.inr (z.elim (fun q=>.inl (.inl q)) .inr),s.mu,fun a h=>h.elim (fun q=>(s.nw a q).elim (fun z=>.inl (.inl z)) .inr) fun q=>.inl (.inr q),s.zd⟩
theorem Step.same {g:G} {P:Fp} {H H':Hp} (s:Pm H H'):Step g P H g P H':=
 have dm:∀ b,H' b=none->H b=none:=fun b h=>by
  cases e:H b with
  | none=>rfl
  | some o=>rw [s b o e] at h;cases h
 ⟨fun b o h _=>s b o h,dm,fun _ h=>h,fun _ h=>.inl h,⟨[],by simp⟩,fun _ h=>.inl h,fun z a h q=>z a h (dm a q)⟩
def FpOk (g:G) (H:Hp) (P:Fp):Prop:=∀ a,P a->fI (H a)/\¬ g.Z a
theorem FpOk.or {g:G} {H:Hp} {P Q:Fp} (h:FpOk g H P) (k:FpOk g H Q):FpOk g H fun a=>P a\/Q a:=fun a q=>q.elim (h a) (k a)
theorem FpOk.nop {g:G} {H:Hp}:FpOk g H nop:=fun _ z=>z.elim
theorem FpOk.new {g:G} {H:Hp} {P:Fp} (h:FpOk g H P) {a:Addr} (n:H a=none):¬ P a:=fun z=>by have:=(h a z).1;rw [n] at this;exact this
theorem nop_iff {P:Fp} (h:∀ a,¬ P a):P=nop:=funext fun a=>propext ⟨fun z=>(h a z).elim,fun z=>z.elim⟩
section
variable {K:W.Frag} {g g':G} {H H':Hp}
theorem Step.out {P P' R:Fp} (s:Step g P H g' P' H') (ok:FpOk g H R) (n:Disj R P):Disj R P':=fun a q z=>(s.nw a z).elim (fun z=>n a q z) fun z=>ok.new z q
theorem Lk.held {o:Nat} {a:Addr} {vs:List V} {P P':Fp} (h:Lk g H o a vs) (hn:o≠0->¬ P a) (s:Step g P H g' P' H') (ok:FpOk g H P):Lk g' H' o a vs:=by
 have np:¬ P a:=by
  by_cases z:o=0
  ·exact fun q=>(ok a q).2 (h.2.1 z)
  ·exact hn z
 refine ⟨s.keep _ _ h.1 np,fun z=>s.zm _ (h.2.1 z),fun z q=>?_⟩;rcases s.zn _ q with q | q | q
 ·exact h.2.2 z q
 ·exact np q
 ·rw [h.1] at q;cases q
mutual
theorem Rep.held {P P':Fp} (s:Step g P H g' P' H') (ok:FpOk g H P):∀ {o:Nat} {d:Dv} {v:V} {R:Fp},Rep K g H o d v R->Disj R P->Rep K g' H' o d v R
 | _,.non,v,R,h,_ | _,.bl _,v,R,h,_ | _,.int _,v,R,h,_ | _,.str _,v,R,h,_ | _,.ty _,v,R,h,_ | _,.mtp _,v,R,h,_=>by unfold Rep at h ⊢;exact h
 | o,.dti n,v,R,h,d=>by
  unfold Rep at h ⊢;obtain ⟨a,e,h1,h2,h3,h4⟩:=h;have hn:¬ P a:=fun z=>by
   by_cases q:o=0
   ·exact (ok a z).2 (h2 q)
   ·exact d a ((h4 a).mpr ⟨q,rfl⟩) z
  refine ⟨a,e,s.keep _ _ h1 hn,fun q=>s.zm _ (h2 q),fun q z=>?_,h4⟩;rcases s.zn _ z with z | z | z
  ·exact h3 q z
  ·exact hn z
  ·rw [h1] at z;cases z
 | o,.tup ds,v,R,h,n=>by
  unfold Rep at h ⊢;obtain ⟨a,vs,e,h1,h2⟩:=h;exact ⟨a,vs,e,s.keep _ _ h1 fun z=>(by have:=(ok a z).1;rw [h1] at this;exact this),Reps.held s ok h2 n⟩
 | o,.lst ds,v,R,h,n=>by
  unfold Rep at h ⊢;obtain ⟨a,vs,R',e,h1,h2,h3,h5⟩:=h;exact ⟨a,vs,R',e,h1.held (fun z q=>n a ((h5 a).mpr (.inl ⟨z,rfl⟩)) q) s ok,Reps.held s ok h2 fun b q z=>n b ((h5 b).mpr (.inr q)) z,h3,h5⟩
 | _,.dic kvs,v,R,h,_=>by unfold Rep at h;exact h.elim
 | _,.ref k,v,R,h,_=>by
  unfold Rep at h ⊢;obtain ⟨⟨a,h1,h2⟩,h3⟩:=h;obtain ⟨r,e⟩:=s.mu;refine ⟨⟨a,?_,h2⟩,h3⟩;rw [e,List.getElem?_append_left (List.getElem?_eq_some_iff.mp h1).1];exact h1
 | _,.scr ns,v,R,h,_=>by
  unfold Rep at h ⊢;obtain ⟨⟨a,h1,h2⟩,h3⟩:=h;refine ⟨⟨a,h1,?_⟩,h3⟩;rcases h2 with ⟨o,h2⟩ | h2
  ·exact .inl ⟨o,s.keep _ _ h2 fun z=>by have:=(ok a z).1;rw [h2] at this;exact this⟩
  ·exact .inr h2
theorem Reps.held {P P':Fp} (s:Step g P H g' P' H') (ok:FpOk g H P):∀ {o:Nat} {ds:List Dv} {vs:List V} {R:Fp},Reps K g H o ds vs R->Disj R P->Reps K g' H' o ds vs R
 | _,[],vs,R,h,_=>by unfold Reps at h ⊢;exact h
 | o,d::ds,vs,R,h,n=>by
  unfold Reps at h ⊢;obtain ⟨v,r,P1,P2,e,h1,h2,h3,h4⟩:=h;exact ⟨v,r,P1,P2,e,Rep.held s ok h1 fun a q z=>n a ((h4 a).mpr (.inl q)) z,Reps.held s ok h2 fun a q z=>n a ((h4 a).mpr (.inr q)) z,h3,h4⟩
end
mutual
theorem Rep.fpOk:∀ {o:Nat} {d:Dv} {v:V} {R:Fp},Rep K g H o d v R->FpOk g H R
 | _,.non,v,R,h,a,q | _,.bl _,v,R,h,a,q | _,.int _,v,R,h,a,q | _,.str _,v,R,h,a,q | _,.ty _,v,R,h,a,q | _,.mtp _,v,R,h,a,q | _,.ref _,v,R,h,a,q | _,.scr _,v,R,h,a,q=>by unfold Rep at h;exact (h.2 a q).elim
 | o,.dti n,v,R,h,a,q=>by
  unfold Rep at h;obtain ⟨b,e,h1,h2,h3,h4⟩:=h;obtain ⟨ho,rfl⟩:=(h4 a).mp q;exact ⟨by rw [h1];trivial,h3 ho⟩
 | o,.tup ds,v,R,h,a,q=>by
  unfold Rep at h;obtain ⟨_,vs,e,h1,h2⟩:=h;exact Reps.fpOk h2 a q
 | o,.lst ds,v,R,h,a,q=>by
  unfold Rep at h;obtain ⟨b,vs,R',e,h1,h2,h3,h5⟩:=h;rcases (h5 a).mp q with ⟨z,rfl⟩ | z
  ·exact ⟨by rw [h1.1];trivial,h1.2.2 z⟩
  ·exact Reps.fpOk h2 a z
 | _,.dic kvs,v,R,h,a,q=>by unfold Rep at h;exact h.elim
theorem Reps.fpOk:∀ {o:Nat} {ds:List Dv} {vs:List V} {R:Fp},Reps K g H o ds vs R->FpOk g H R
 | _,[],vs,R,h,a,q=>by unfold Reps at h;exact (h.2 a q).elim
 | o,d::ds,vs,R,h,a,q=>by
  unfold Reps at h;obtain ⟨v,r,P1,P2,e,h1,h2,h3,h4⟩:=h;rcases (h4 a).mp q with z | z
  ·exact Rep.fpOk h1 a z
  ·exact Reps.fpOk h2 a z
end
mutual
theorem Rep.none0:∀ {d:Dv} {v:V} {R:Fp},Rep K g H 0 d v R->∀ a,¬ R a
 | .non,v,R,h | .bl _,v,R,h | .int _,v,R,h | .str _,v,R,h | .ty _,v,R,h | .mtp _,v,R,h | .ref _,v,R,h | .scr _,v,R,h=>by unfold Rep at h;exact h.2
 | .dti n,v,R,h=>by
  unfold Rep at h;obtain ⟨b,e,h1,h2,h3,h4⟩:=h;exact fun a q=>((h4 a).mp q).1 rfl
 | .tup ds,v,R,h=>by
  unfold Rep at h;obtain ⟨_,vs,e,h1,h2⟩:=h;exact Reps.none0 h2
 | .lst ds,v,R,h=>by
  unfold Rep at h;obtain ⟨b,vs,R',e,h1,h2,h3,h5⟩:=h;exact fun a q=>((h5 a).mp q).elim (fun z=>z.1 rfl) fun z=>Reps.none0 h2 a z
 | .dic kvs,v,R,h=>by unfold Rep at h;exact h.elim
theorem Reps.none0:∀ {ds:List Dv} {vs:List V} {R:Fp},Reps K g H 0 ds vs R->∀ a,¬ R a
 | [],vs,R,h=>by unfold Reps at h;exact h.2
 | d::ds,vs,R,h=>by
  unfold Reps at h;obtain ⟨v,r,P1,P2,e,h1,h2,h3,h4⟩:=h;exact fun a q=>((h4 a).mp q).elim (fun z=>Rep.none0 h1 a z) fun z=>Reps.none0 h2 a z
end
theorem Reps.iff {o:Nat} {d:List Dv} {v:List V} {P Q:Fp} (h:Reps K g H o d v P) (e:∀ a,Q a↔P a):Reps K g H o d v Q:=by
 have:Q=P:=funext fun a=>propext (e a)
 rw [this];exact h
theorem Rep.z {d:Dv} {v:V} {R:Fp} (h:Rep K g H 0 d v R):Rep K g H 0 d v nop:=by rw [<- nop_iff h.none0];exact h
theorem Reps.z {d:List Dv} {v:List V} {R:Fp} (h:Reps K g H 0 d v R):Reps K g H 0 d v nop:=by rw [<- nop_iff h.none0];exact h
def G.add (g:G) (P:Fp):G:={ g with Z:=fun a=>g.Z a\/P a }
mutual
theorem Rep.freeze {P:Fp}:∀ {o:Nat} {d:Dv} {v:V} {R:Fp},Rep K g H o d v R->(∀ a,R a->P a)->Rep K (g.add P) H 0 d v nop
 | _,.non,v,R,h,_ | _,.bl _,v,R,h,_ | _,.int _,v,R,h,_ | _,.str _,v,R,h,_ | _,.ty _,v,R,h,_ | _,.mtp _,v,R,h,_ | _,.ref _,v,R,h,_ | _,.scr _,v,R,h,_=>by unfold Rep at h ⊢;exact ⟨h.1,fun _ z=>z⟩
 | o,.dti n,v,R,h,s=>by
  unfold Rep at h ⊢;obtain ⟨a,e,h1,h2,h3,h4⟩:=h;refine ⟨a,e,h1,fun _=>?_,fun z=>(z rfl).elim,fun b=>⟨fun z=>z.elim,fun z=>(z.1 rfl).elim⟩⟩
  by_cases q:o=0
  ·exact .inl (h2 q)
  ·exact .inr (s a ((h4 a).mpr ⟨q,rfl⟩))
 | o,.tup ds,v,R,h,s=>by
  unfold Rep at h ⊢;obtain ⟨a,vs,e,h1,h2⟩:=h;exact ⟨a,vs,e,h1,Reps.freeze h2 s⟩
 | o,.lst ds,v,R,h,s=>by
  unfold Rep at h ⊢;obtain ⟨a,vs,R',e,h1,h2,h3,h5⟩:=h;refine ⟨a,vs,nop,e,⟨h1.1,fun _=>?_,fun z=>(z rfl).elim⟩,Reps.freeze h2 (fun b q=>s b ((h5 b).mpr (.inr q))),fun z=>z,fun b=>⟨fun z=>z.elim,fun z=>z.elim (fun q=>(q.1 rfl).elim) id⟩⟩
  by_cases q:o=0
  ·exact .inl (h1.2.1 q)
  ·exact .inr (s a ((h5 a).mpr (.inl ⟨q,rfl⟩)))
 | _,.dic kvs,v,R,h,_=>by unfold Rep at h;exact h.elim
theorem Reps.freeze {P:Fp}:∀ {o:Nat} {ds:List Dv} {vs:List V} {R:Fp},Reps K g H o ds vs R->(∀ a,R a->P a)->Reps K (g.add P) H 0 ds vs nop
 | _,[],vs,R,h,_=>by unfold Reps at h ⊢;exact ⟨h.1,fun _ z=>z⟩
 | o,d::ds,vs,R,h,s=>by
  unfold Reps at h ⊢;obtain ⟨v,r,P1,P2,e,h1,h2,h3,h4⟩:=h;exact ⟨v,r,nop,nop,e,Rep.freeze h1 (fun a q=>s a ((h4 a).mpr (.inl q))),Reps.freeze h2 (fun a q=>s a ((h4 a).mpr (.inr q))),fun _ z=>z.elim,fun a=>⟨fun z=>z.elim,fun z=>z.elim id id⟩⟩
end
theorem Step.freeze {P:Fp} (ok:FpOk g H P):Step g P H (g.add P) nop H:=
 ⟨fun _ _ h _=>h,fun _ h=>h,fun _ h=>.inl h,fun a h=>h.elim .inl fun q=>.inr (.inl q),⟨[],by show g.μ=_;simp⟩,fun _ h=>h.elim,fun z a h q=>h.elim (fun h=>z a h q) fun h=>by have:=(ok a h).1;rw [q] at this;exact this⟩
theorem Reps.nil {o:Nat}:Reps K g H o [] [] nop:=by unfold Reps;exact ⟨rfl,fun _ z=>z⟩
theorem Reps.cons {o:Nat} {d:Dv} {v:V} {ds:List Dv} {vs:List V} {P1 P2:Fp} (h1:Rep K g H o d v P1) (h2:Reps K g H o ds vs P2) (n:Disj P1 P2):Reps K g H o (d::ds) (v::vs) fun a=>P1 a\/P2 a:=by
 unfold Reps;exact ⟨v,vs,P1,P2,rfl,h1,h2,n,fun _=>Iff.rfl⟩
theorem Reps.len:∀ {o:Nat} {ds:List Dv} {vs:List V} {R:Fp},Reps K g H o ds vs R->ds.length=vs.length
 | _,[],vs,R,h=>by unfold Reps at h;rw [h.1];rfl
 | _,d::ds,vs,R,h=>by
  unfold Reps at h;obtain ⟨v,r,P1,P2,rfl,h1,h2,_⟩:=h;simp [h2.len]
theorem Reps.get:∀ {o:Nat} {ds:List Dv} {vs:List V} {R:Fp} {i:Nat} {d:Dv},Reps K g H o ds vs R->ds[i]?=some d->∃ v P,vs[i]?=some v/\Rep K g H o d v P/\∀ a,P a->R a
 | _,[],_,_,_,_,_,e=>by simp at e
 | _,d::ds,vs,R,i,d',h,e=>by
  unfold Reps at h;obtain ⟨v,r,P1,P2,rfl,h1,h2,_,h4⟩:=h;cases i with
  | zero=>simp at e;subst e;exact ⟨v,P1,rfl,h1,fun a q=>(h4 a).mpr (.inl q)⟩
  | succ i =>
   obtain ⟨v',P,e',h',s⟩:=h2.get (i:=i) (by simpa using e);exact ⟨v',P,by simpa using e',h',fun a q=>(h4 a).mpr (.inr (s a q))⟩
theorem Reps.app:∀ {o:Nat} {ds es:List Dv} {vs us:List V} {P Q:Fp},Reps K g H o ds vs P->Reps K g H o es us Q->Disj P Q->Reps K g H o (ds++es) (vs++us) fun a=>P a\/Q a
 | _,[],es,vs,us,P,Q,h,k,_=>by
  unfold Reps at h;obtain ⟨rfl,n⟩:=h;exact k.iff fun a=>⟨fun z=>z.elim (fun q=>(n a q).elim) id,.inr⟩
 | _,d::ds,es,vs,us,P,Q,h,k,n=>by
  unfold Reps at h;obtain ⟨v,r,P1,P2,rfl,h1,h2,h3,h4⟩:=h;have t:=Reps.app h2 k fun a q z=>n a ((h4 a).mpr (.inr q)) z
  refine (Reps.cons h1 t fun a q z=>z.elim (fun z=>h3 a q z) fun z=>n a ((h4 a).mpr (.inl q)) z).iff fun a=>?_
  rw [h4 a,or_assoc]
end
noncomputable abbrev M:=List Dv
noncomputable abbrev Gm:=List (Option Nat)
noncomputable def M.at (m:M) (i:Nat):Dv:=m.getD i .non
structure REnv (K:W.Frag) (g:G) (H:Hp) (Γ:Gm) (ρ:List Dv) (σ:St) (F:Nat->Fp):Prop where
 l1:ρ.length=Γ.length
 l2:σ.length=Γ.length
 rep:∀ i o,Γ[i]?=some (some o)->∃ d v,ρ[i]?=some d/\σ[i]?=some (some v)/\Rep K g H o d v (F i)
 out:∀ i,(∀ o,Γ[i]?≠some (some o))->∀ a,¬ F i a
 dj:∀ i j,i≠j->Disj (F i) (F j)
def Rel (K:W.Frag) (g:G) (H:Hp) (Γ:Gm) (m:M) (σ:St) (P:Fp):Prop:=Zd g H/\∃ F,REnv K g H Γ m σ F/\∀ a,P a↔∃ i,F i a
theorem Dd {α:Type} {l:List α} {i j:Nat} {x y:α} (h:(l.set i x)[j]?=some y):(i=j/\y=x)\/(i≠j/\l[j]?=some y):=by
 by_cases e:i=j
 ·subst e;refine .inl ⟨rfl,?_⟩;rw [List.getElem?_set] at h;simp only [if_true] at h;split at h
  ·exact (Option.some.inj h).symm
  ·cases h
 ·rw [List.getElem?_set_ne e] at h;exact .inr ⟨e,h⟩
theorem Ic {m:M} {i:Nat} {d:Dv} (h:m[i]?=some d):m.at i=d:=by unfold M.at;rw [List.getD_eq_getElem?_getD,h];rfl
section
variable {K:W.Frag} {g g':G} {H H':Hp} {Γ:Gm} {m:M} {σ:St} {P:Fp}
theorem Rel.zd (h:Rel K g H Γ m σ P):Zd g H:=h.1
theorem Rel.len (h:Rel K g H Γ m σ P):m.length=Γ.length/\σ.length=Γ.length:=let ⟨_,_,h1,_⟩:=h;⟨h1.l1,h1.l2⟩
theorem Rel.fpOk (h:Rel K g H Γ m σ P):FpOk g H P:=by
 obtain ⟨_,F,h1,h4⟩:=h;intro a q;obtain ⟨i,z⟩:=(h4 a).mp q
 by_cases e:∃ o,Γ[i]?=some (some o)
 ·obtain ⟨o,e⟩:=e;obtain ⟨d,v,_,_,r⟩:=h1.rep i o e;exact r.fpOk a z
 ·exact (h1.out i (fun o z=>e ⟨o,z⟩) a z).elim
theorem Rel.held {P' R:Fp} (s:Step g P H g' P' H') (ok:FpOk g H P) (h:Rel K g H Γ m σ R) (n:Disj R P):Rel K g' H' Γ m σ R:=by
 obtain ⟨zd,F,h1,h4⟩:=h;refine ⟨s.zd zd,F,⟨h1.l1,h1.l2,fun i o e=>?_,h1.out,h1.dj⟩,h4⟩;obtain ⟨d,v,e1,e2,r⟩:=h1.rep i o e;exact ⟨d,v,e1,e2,r.held s ok fun a q z=>n a ((h4 a).mpr ⟨i,q⟩) z⟩
theorem Rel.same (h:Rel K g H Γ m σ P) (s:Pm H H'):Rel K g H' Γ m σ P:=h.held (Step.same (P:=nop) s) FpOk.nop fun _ _ z=>z
theorem Rel.see {i o:Nat} (h:Rel K g H Γ m σ P) (e:Γ[i]?=some (some o)):∃ v P1,σ[i]?=some (some v)/\Rep K g H o (m.at i) v P1/\∀ a,P1 a->P a:=by
 obtain ⟨_,F,h1,h4⟩:=h;obtain ⟨d,v,e1,e2,r⟩:=h1.rep i o e;exact ⟨v,F i,e2,by rw [Ic e1];exact r,fun a q=>(h4 a).mpr ⟨i,q⟩⟩
theorem Rel.agree {m2:M} (h:Rel K g H Γ m σ P) (hl:m2.length=m.length) (ha:∀ i o,Γ[i]?=some (some o)->m2.at i=m.at i):Rel K g H Γ m2 σ P:=by
 obtain ⟨zd,F,h1,h4⟩:=h;refine ⟨zd,F,⟨hl.trans h1.l1,h1.l2,fun i o e=>?_,h1.out,h1.dj⟩,h4⟩;obtain ⟨d,v,e1,e2,r⟩:=h1.rep i o e;have hi:i < m2.length:=by rw [hl];exact (List.getElem?_eq_some_iff.mp e1).1
 refine ⟨d,v,?_,e2,r⟩;have:=ha i o e;unfold M.at at this;rw [List.getD_eq_getElem?_getD,List.getD_eq_getElem?_getD,e1,List.getElem?_eq_getElem hi] at this;rw [List.getElem?_eq_getElem hi];exact congrArg some this
theorem Rel.drop (i:Nat) (d:Dv) (x:Option V) (h:Rel K g H Γ m σ P):∃ P2,Rel K g H (Γ.set i none) (m.set i d) (σ.set i x) P2/\∀ a,P2 a->P a:=by
 obtain ⟨zd,F,h1,h4⟩:=h;refine ⟨fun a=>∃ j,j≠i/\F j a,⟨zd,fun j a=>j≠i/\F j a,⟨by rw [List.length_set,List.length_set,h1.l1],by rw [List.length_set,List.length_set,h1.l2],fun j o e=>?_,fun j e a q=>?_,fun j k n a q z=>h1.dj j k n a q.2 z.2⟩,fun _=>Iff.rfl⟩,fun a ⟨j,_,q⟩=>(h4 a).mpr ⟨j,q⟩⟩
 ·rcases Dd e with ⟨_,z⟩ | ⟨n,e⟩
  ·cases z
  ·obtain ⟨d',v,e1,e2,r⟩:=h1.rep j o e;have eq:(fun a=>j≠i/\F j a)=F j:=funext fun a=>propext ⟨fun z=>z.2,fun z=>⟨fun q=>n q.symm,z⟩⟩
   exact ⟨d',v,by rw [List.getElem?_set_ne n];exact e1,by rw [List.getElem?_set_ne n];exact e2,by show Rep K g H o d' v (fun a=>j≠i/\F j a);rw [eq];exact r⟩
 ·refine h1.out j (fun o z=>e o ?_) a q.2;rw [List.getElem?_set_ne fun z=>q.1 z.symm];exact z
theorem Rel.fill {i o:Nat} {d:Dv} {v:V} {P1:Fp} (h:Rel K g H Γ m σ P) (e:Γ[i]?=some none) (hd:m[i]?=some d) (hv:σ[i]?=some (some v)) (r:Rep K g H o d v P1) (n:Disj P1 P):Rel K g H (Γ.set i (some o)) m σ fun a=>P1 a\/P a:=by
 obtain ⟨zd,F,h1,h4⟩:=h;have fi:∀ a,¬ F i a:=h1.out i fun o z=>by rw [e] at z;cases z
 have hi:i < Γ.length:=(List.getElem?_eq_some_iff.mp e).1;refine ⟨zd,fun j a=>if j=i then P1 a else F j a,⟨by rw [List.length_set];exact h1.l1,by rw [List.length_set];exact h1.l2,fun j o' e'=>?_,fun j e' a q=>?_,fun j k nn a q z=>?_⟩,fun a=>?_⟩
 ·rcases Dd e' with ⟨rfl,z⟩ | ⟨nn,e'⟩
  ·cases z;have eq:(fun a=>if i=i then P1 a else F i a)=P1:=funext fun a=>by rw [if_pos rfl]
   exact ⟨d,v,hd,hv,by show Rep K g H o d v fun a=>if i=i then P1 a else F i a;rw [eq];exact r⟩
  ·obtain ⟨d',v',e1,e2,r'⟩:=h1.rep j o' e';have eq:(fun a=>if j=i then P1 a else F j a)=F j:=funext fun a=>by rw [if_neg fun z=>nn z.symm]
   exact ⟨d',v',e1,e2,by show Rep K g H o' d' v' fun a=>if j=i then P1 a else F j a;rw [eq];exact r'⟩
 ·by_cases z:j=i
  ·subst z;exact e' o (List.getElem?_set_self hi)
  ·simp only [if_neg z] at q;exact h1.out j (fun o' z'=>e' o' (by rw [List.getElem?_set_ne fun w=>z w.symm];exact z')) a q
 ·by_cases zj:j=i
  ·by_cases zk:k=i
   ·exact nn (zj.trans zk.symm)
   ·simp only [if_pos zj,if_neg zk] at q z;exact n a q ((h4 a).mpr ⟨k,z⟩)
  ·by_cases zk:k=i
   ·simp only [if_neg zj,if_pos zk] at q z;exact n a z ((h4 a).mpr ⟨j,q⟩)
   ·simp only [if_neg zj,if_neg zk] at q z;exact h1.dj j k nn a q z
 ·show P1 a\/P a↔_;rw [h4 a];refine ⟨fun z=>?_,fun ⟨j,z⟩=>?_⟩
  ·rcases z with z | ⟨j,z⟩
   ·exact ⟨i,by simp only [if_true];exact z⟩
   ·have:j≠i:=fun w=>fi a (w▸z)
    exact ⟨j,by simp only [if_neg this];exact z⟩
  ·by_cases zj:j=i
   ·simp only [if_pos zj] at z;exact .inl z
   ·simp only [if_neg zj] at z;exact .inr ⟨j,z⟩
theorem GN {α:Type} {l:List α} {i:Nat} {x:α} (h:l[i]?=some x):l.set i x=l:=by
 apply List.ext_getElem?;intro j
 by_cases e:i=j
 ·subst e;rw [List.getElem?_set_self (List.getElem?_eq_some_iff.mp h).1,h]
 ·rw [List.getElem?_set_ne e]
theorem Rel.take {i o:Nat} (h:Rel K g H Γ m σ P) (e:Γ[i]?=some (some o)):∃ v P1 P2,σ[i]?=some (some v)/\m[i]?=some (m.at i)/\Rep K g H o (m.at i) v P1/\Rel K g H (Γ.set i none) m σ P2/\Disj P1 P2/\∀ a,P a↔P1 a\/P2 a:=by
 obtain ⟨zd,F,h1,h4⟩:=h;obtain ⟨d,v,e1,e2,r⟩:=h1.rep i o e;refine ⟨v,F i,fun a=>∃ j,j≠i/\F j a,e2,by rw [Ic e1];exact e1,by rw [Ic e1];exact r,⟨zd,fun j a=>j≠i/\F j a,⟨by rw [List.length_set];exact h1.l1,by rw [List.length_set];exact h1.l2,fun j o' e'=>?_,fun j e' a q=>?_,fun j k n a q z=>h1.dj j k n a q.2 z.2⟩,fun _=>Iff.rfl⟩,fun a q ⟨j,n,z⟩=>h1.dj i j (fun w=>n w.symm) a q z,fun a=>?_⟩
 ·rcases Dd e' with ⟨_,z⟩ | ⟨n,e'⟩
  ·cases z
  ·obtain ⟨d',v',e3,e4,r'⟩:=h1.rep j o' e';have eq:(fun a=>j≠i/\F j a)=F j:=funext fun a=>propext ⟨fun z=>z.2,fun z=>⟨fun q=>n q.symm,z⟩⟩
   exact ⟨d',v',e3,e4,by show Rep K g H o' d' v' (fun a=>j≠i/\F j a);rw [eq];exact r'⟩
 ·exact h1.out j (fun o' z=>e' o' (by rw [List.getElem?_set_ne fun w=>q.1 w.symm];exact z)) a q.2
 ·rw [h4 a];refine ⟨fun ⟨j,z⟩=>?_,fun z=>?_⟩
  ·by_cases zj:j=i
   ·exact .inl (zj▸z)
   ·exact .inr ⟨j,zj,z⟩
  ·rcases z with z | ⟨j,_,z⟩
   ·exact ⟨i,z⟩
   ·exact ⟨j,z⟩
theorem DO {α:Type} (l:List α) (i:Nat) (x y:α):(l.set i x).set i y=l.set i y:=List.set_set ..
theorem Rel.setNew {Pv:Fp} {i o:Nat} {d:Dv} {v:V} (h:Rel K g H Γ m σ P) (hi:i < Γ.length) (hv:Rep K g H o d v Pv) (n:Disj Pv P) :
    ∃ P2,Rel K g H (Γ.set i (some o)) (m.set i d) (σ.set i (some v)) P2/\∀ a,P2 a->P a\/Pv a:=by
  obtain ⟨P2,h2,s⟩:=h.drop i d (some v);have l:=h.len;have:=h2.fill (i:=i) (List.getElem?_set_self hi) (List.getElem?_set_self (by omega)) (List.getElem?_set_self (by omega)) hv fun a q z=>n a q (s a z)
  rw [DO] at this;exact ⟨_,this,fun a q=>q.elim .inr fun q=>.inl (s a q)⟩
theorem Rel.putIn {P1:Fp} {i o:Nat} {d:Dv} {v:V} (h:Rel K g H (Γ.set i none) m σ P) (hi:i < Γ.length) (hv:σ[i]?=some (some v)) (r:Rep K g H o d v P1) (n:Disj P1 P):∃ P2,Rel K g H (Γ.set i (some o)) (m.set i d) σ P2/\∀ a,P2 a->P1 a\/P a:=by
 obtain ⟨P2,h2,s⟩:=h.drop i d (some v);rw [GN hv] at h2;have l:=h.len;rw [List.length_set] at l;have h3:=h2.fill (i:=i) (by rw [DO];exact List.getElem?_set_self hi) (List.getElem?_set_self (by omega)) hv r fun a q z=>n a q (s a z)
 rw [DO,DO] at h3;exact ⟨_,h3,fun a q=>q.elim .inl fun q=>.inr (s a q)⟩
theorem Rel.freeze {i o:Nat} (h:Rel K g H Γ m σ P) (e:Γ[i]?=some (some o)):∃ g' P' v,Step g P H g' P' H/\Rel K g' H (Γ.set i (some 0)) m σ P'/\σ[i]?=some (some v)/\Rep K g' H 0 (m.at i) v nop:=by
 obtain ⟨v,P1,P2,ev,ed,r,r2,n,hP⟩:=h.take e;have st:Step g P1 H (g.add P1) nop H:=Step.freeze r.fpOk;have fr:Rep K (g.add P1) H 0 (m.at i) v nop:=r.freeze fun _ q=>q
 have r3:=r2.held st r.fpOk fun a q z=>n a z q
 have hi:i < Γ.length:=(List.getElem?_eq_some_iff.mp e).1;have r4:=r3.fill (i:=i) (List.getElem?_set_self hi) ed ev fr fun _ z=>z.elim
 rw [DO] at r4;refine ⟨_,_,v,?_,r4,ev,fr⟩;exact (st.frame (R:=P2)).sub (fun a q=>(hP a).mpr q) fun a q=>q.elim (fun z=>z.elim) .inr
def BQ:Gm->Gm->Bool
 | [],[]=>true
 | none::a,_::b=>BQ a b
 | some o::a,some o'::b=>(o == 0 || o == o') && BQ a b
 | _,_=>false
theorem Do:∀ {a b:Gm},BQ a b=true->a.length=b.length
 | [],[],_=>rfl
 | none::a,_::b,h=>by unfold BQ at h;simp [Do h]
 | some o::a,some o'::b,h=>by unfold BQ at h;simp [Do (Bool.and_eq_true_iff.mp h).2]
 | [],_::_,h=>by cases h
 | some _::_,none::_,h=>by cases h
 | some _::_,[],h=>by cases h
 | none::_,[],h=>by cases h
theorem Ea:∀ {a b:Gm} {i o:Nat},BQ a b=true->a[i]?=some (some o)->∃ o',b[i]?=some (some o')/\(o=0\/o=o')
 | [],_,i,o,_,e=>by simp at e
 | none::a,x::b,i,o,h,e=>by
  unfold BQ at h;cases i with
  | zero=>simp at e
  | succ i=>obtain ⟨o',e',z⟩:=Ea (i:=i) h (by simpa using e);exact ⟨o',by simpa using e',z⟩
 | some p::a,some p'::b,i,o,h,e=>by
  unfold BQ at h;rw [Bool.and_eq_true] at h;cases i with
  | zero =>
   simp at e;subst e;refine ⟨p',rfl,?_⟩;have:=h.1;rw [Bool.or_eq_true,beq_iff_eq,beq_iff_eq] at this;exact this
  | succ i=>obtain ⟨o',e',z⟩:=Ea (i:=i) h.2 (by simpa using e);exact ⟨o',by simpa using e',z⟩
 | some _::_,none::_,_,_,h,_=>by cases h
 | some _::_,[],_,_,h,_=>by cases h
 | none::_,[],_,_,h,_=>by cases h
theorem Rel.weaken {Γ':Gm} (h:Rel K g H Γ m σ P) (e:BQ Γ' Γ=true):∃ g' P',Step g P H g' P' H/\Rel K g' H Γ' m σ P':=by
 have ok:=h.fpOk;obtain ⟨zd,F,h1,h4⟩:=h
 let D:Fp:=fun a=>∃ i,Γ'[i]?=some (some 0)/\F i a
 have okD:FpOk g H D:=fun a ⟨i,_,q⟩=>ok a ((h4 a).mpr ⟨i,q⟩)
 have st:Step g D H (g.add D) nop H:=Step.freeze okD
 let F':Nat->Fp:=fun i a=>(∃ o,Γ'[i]?=some (some (o+1)))/\F i a
 refine ⟨g.add D,fun a=>∃ i,F' i a,?_,st.zd zd,F',⟨by rw [Do e];exact h1.l1,by rw [Do e];exact h1.l2,fun i o ei=>?_,fun i ei a q=>?_,fun i j n a q z=>h1.dj i j n a q.2 z.2⟩,fun _=>Iff.rfl⟩
 ·refine (st.frame (R:=fun a=>∃ i,F' i a)).sub (fun a q=>?_) fun a q=>.inr q
  rcases q with ⟨i,_,q⟩ | ⟨i,q⟩
  ·exact (h4 a).mpr ⟨i,q⟩
  ·exact (h4 a).mpr ⟨i,q.2⟩
 ·obtain ⟨o',eo,z⟩:=Ea e ei;obtain ⟨d,v,e1,e2,r⟩:=h1.rep i o' eo;refine ⟨d,v,e1,e2,?_⟩;cases o with
  | zero =>
   have eq:F' i=nop:=nop_iff fun a ⟨⟨o,w⟩,_⟩=>by rw [ei] at w;cases w
   rw [eq];exact r.freeze fun a q=>⟨i,ei,q⟩
  | succ o =>
   have eq:F' i=F i:=funext fun a=>propext ⟨fun w=>w.2,fun w=>⟨⟨o,ei⟩,w⟩⟩
   rcases z with z | z
   ·cases z
   ·subst z;rw [eq];refine r.held st okD fun a q ⟨j,ej,z⟩=>?_
    by_cases w:i=j
    ·subst w;rw [ei] at ej;cases ej
    ·exact h1.dj i j w a q z
 ·obtain ⟨⟨o,w⟩,_⟩:=q;exact ei _ w
end
theorem PE.imp {X:Cx} {e:Expr} {t t':TE} (h:PE X e t) (k:∀ σ H Q,t' σ H Q->t σ H Q):PE X e t':=fun pins s σ H Q I q=>h pins s σ H Q I (k σ H Q q)
theorem PT.imp {X:Cx} {e:Expr} {t t':TT} (h:PT X e t) (k:∀ σ H Q,t' σ H Q->t σ H Q):PT X e t':=fun pins s σ H Q I q=>h pins s σ H Q I (k σ H Q q)
theorem PW.imp {X:Cx} {e:Expr} {t t':TT} (h:PW X e t) (k:∀ σ H Q,t' σ H Q->t σ H Q):PW X e t':=fun wh pins s σ H Q I q=>h wh pins s σ H Q I (k σ H Q q)
theorem PS.imp {X:Cx} {e:Stmt} {t t':TS} (h:PS X e t) (k:∀ D σ H,t' D σ H->t D σ H):PS X e t':=fun pins s σ H D I q=>h pins s σ H D I (k D σ H q)
theorem DL.imp {X:Cx} {e:List Stmt} {t t':TS} (h:DL X e t) (k:∀ D σ H,t' D σ H->t D σ H):DL X e t':=fun pins s σ H D I q=>h pins s σ H D I (k D σ H q)
noncomputable abbrev Ev (α:Type):=(R:Type)->M->(α->M->Option R)->Option R
def BW (js:List Nat) (m m':M):Prop:=m'.length=m.length/\∀ i,i∉js->m'.at i=m.at i
theorem BW.refl {js:List Nat} {m:M}:BW js m m:=⟨rfl,fun _ _=>rfl⟩
theorem BW.trans {js ks:List Nat} {m m1 m2:M} (a:BW js m m1) (b:BW ks m1 m2):BW (js++ks) m m2:=⟨b.1.trans a.1,fun i h=>(b.2 i fun z=>h (List.mem_append_right _ z)).trans (a.2 i fun z=>h (List.mem_append_left _ z))⟩
theorem BW.set {m:M} {i:Nat} {d:Dv}:BW [i] m (m.set i d):=⟨List.length_set ..,fun j h=>by
 have n:i≠j:=fun z=>h (by rw [z];exact List.mem_singleton_self _)
 unfold M.at;rw [List.getD_eq_getElem?_getD,List.getD_eq_getElem?_getD,List.getElem?_set_ne n]⟩
theorem BW.mono {js ks:List Nat} {m m1:M} (a:BW js m m1) (h:∀ i∈js,i∈ks):BW ks m m1:=⟨a.1,fun i n=>a.2 i fun z=>n (h i z)⟩
def tE (K:W.Frag) (Γ:Gm) (o:Nat) (Γ':Gm) (js:List Nat) (f:Ev Dv):TE:=fun σ H Q=>∃ g m P,Rel K g H Γ m σ P/\∃ (R:Type) (k:Dv->M->Option R) (r:R),f R m k=some r /\
 ∀ d m' g' P' Pv v H',k d m'=some r->BW js m m'->Step g P H g' (fun a=>P' a\/Pv a) H'->Rep K g' H' o d v Pv->Rel K g' H' Γ' m' σ P'->Disj P' Pv->Q v H'
def tT (K:W.Frag) (Γ Γ':Gm) (js:List Nat) (f:Ev Bool):TT:=fun σ H Q=>∃ g m P,Rel K g H Γ m σ P/\∃ (R:Type) (k:Bool->M->Option R) (r:R),f R m k=some r /\
 ∀ b m' g' P' H',k b m'=some r->BW js m m'->Step g P H g' P' H'->Rel K g' H' Γ' m' σ P'->Q b H'
inductive Ar:Type 1 where
 | rf (i:Nat)
 | ev (Γ Γ':Gm) (js:List Nat) (f:Ev Dv)
def HN (K:W.Frag):Ar->TE
 | .rf i=>HS i
 | .ev Γ Γ' js f=>tE K Γ 0 Γ' js f
def Bn (K:W.Frag):List Ar->TA
 | []=>UV
 | a::as=>XO (HN K a) (Bn K as)
def AQ:List Ar->Ev (List Dv)
 | [],_,m,k=>k [] m
 | .rf i::as,R,m,k=>AQ as R m fun ds m1=>k (m1.at i::ds) m1
 | .ev _ _ _ f::as,R,m,k=>f R m fun d m1=>AQ as R m1 fun ds m2=>k (d::ds) m2
def AC:Gm->List Ar->Gm->List Nat->Prop
 | Γ,[],Γ',js=>Γ'=Γ/\js=[]
 | Γ,.rf i::as,Γ',js=>(∃ o,Γ[i]?=some (some o))/\(∃ o,o<=1/\Γ'[i]?=some (some o))/\AC Γ as Γ' js
 | Γ,.ev Γ1 Γ2 js1 _::as,Γ',js=>Γ1=Γ/\∃ js2,js=js1++js2/\AC Γ2 as Γ' js2
def Ak (K:W.Frag) (g:G) (H:Hp) (Γ:Gm) (m:M) (σ:St):List Ar->List Dv->List V->Prop
 | [],ds,vs=>ds=[]/\vs=[]
 | .rf i::as,ds,vs=>∃ v ds' vs',ds=m.at i::ds'/\vs=v::vs'/\σ[i]?=some (some v)/\(∃ o,o<=1/\Γ[i]?=some (some o))/\Ak K g H Γ m σ as ds' vs'
 | .ev _ _ _ _::as,ds,vs=>∃ d v ds' vs',ds=d::ds'/\vs=v::vs'/\Rep K g H 0 d v nop/\Ak K g H Γ m σ as ds' vs'
theorem AI {K:W.Frag} {σ:St}:∀ (as:List Ar) {g:G} {Γ Γ':Gm} {js:List Nat} {m:M} {P:Fp} {H:Hp} {R:Type} {k:List Dv->M->Option R} {r:R} {Q:List V->Hp->Prop},Rel K g H Γ m σ P->AC Γ as Γ' js->AQ as R m k=some r ->
    (∀ ds m' g' P' vs H',k ds m'=some r->BW js m m'->Step g P H g' P' H'->Ak K g' H' Γ' m' σ as ds vs->Rel K g' H' Γ' m' σ P'->Q vs H')->Bn K as σ H Q
  | [],g,Γ,Γ',js,m,P,H,R,k,r,Q,rl,c,e,q=>by
    unfold AC at c;obtain ⟨rfl,rfl⟩:=c;exact q [] m g P [] H e BW.refl Step.refl (by unfold Ak;exact ⟨rfl,rfl⟩) rl
  | .rf i::as,g,Γ,Γ',js,m,P,H,R,k,r,Q,rl,c,e,q=>by
    unfold AC at c;obtain ⟨⟨o,ho⟩,h2,c⟩:=c;obtain ⟨v,_,hv,_⟩:=rl.see ho;refine ⟨v,hv,AI as rl c e fun ds m' g' P' vs H' hk ag s ar r1=>q _ m' g' P' _ H' hk ag s ?_ r1⟩;unfold Ak;exact ⟨v,ds,vs,rfl,rfl,hv,h2,ar⟩
  | .ev Γ1 Γ2 js1 f::as,g,Γ,Γ',js,m,P,H,R,k,r,Q,rl,c,e,q=>by
    unfold AC at c;obtain ⟨rfl,js2,rfl,c⟩:=c;refine ⟨g,m,P,rl,R,_,r,e,fun d m1 g1 P1 Pv v H1 hk ag s rv r1 n=>?_⟩;refine AI as r1 c hk fun ds m2 g2 P2 vs H2 hk2 ag2 s2 ar r2=>q _ m2 g2 P2 _ H2 hk2 (ag.trans ag2) ((s.less fun _ q=>.inl q).trans s2) ?_ r2
    unfold Ak;exact ⟨d,v,ds,vs,rfl,rfl,rv.z.held s2 r1.fpOk fun _ z=>z.elim,ar⟩
def RA (K:W.Frag) (g:G) (H:Hp):List Dv->List V->Prop
 | [],vs=>vs=[]
 | d::ds,vs=>∃ v r o P,vs=v::r/\o<=1/\Rep K g H o d v P/\RA K g H ds r
def AV (K:W.Frag) (g:G) (H:Hp) (o:Nat) (d:Dv) (v:V) (H':Hp):Prop:=Pm H H'/\∃ Pv,Rep K g H' o d v Pv/\∀ a,Pv a->H a=none
noncomputable abbrev Pr:=List Dv->Option Dv
abbrev UB:=List V->Hp->VK->Prop
def AE (K:W.Frag) (p:Pr) (o:Nat) (R:UB):Prop:=∀ g H ds vs d Q,Zd g H->RA K g H ds vs->p ds=some d->(∀ v H',AV K g H o d v H'->Q v H')->R vs H Q
def DY (p:Pr) (fa:Ev (List Dv)):Ev Dv:=fun R m k=>fa R m fun ds m'=>(p ds).bind fun d=>k d m'
theorem bind_some'.{u,v} {α:Type u} {β:Type v} {x:Option α} {f:α->Option β} {b:β} (h:x.bind f=some b):∃ a,x=some a/\f a=some b:=Option.bind_eq_some_iff.mp h
section
variable {K:W.Frag} {g:G} {H H':Hp} {σ:St} {Γ Γ':Gm} {m:M} {P:Fp}
theorem Ak.ra (r:Rel K g H Γ m σ P):∀ {as:List Ar} {ds:List Dv} {vs:List V},Ak K g H Γ m σ as ds vs->RA K g H ds vs
 | [],ds,vs,h=>by unfold Ak at h;obtain ⟨rfl,rfl⟩:=h;unfold RA;rfl
 | .ev _ _ _ f::as,ds,vs,h=>by
  unfold Ak at h;obtain ⟨d,v,ds',vs',rfl,rfl,h1,h2⟩:=h;unfold RA;exact ⟨v,vs',0,nop,rfl,by decide,h1,Ak.ra r h2⟩
 | .rf i::as,ds,vs,h=>by
  unfold Ak at h;obtain ⟨v,ds',vs',rfl,rfl,h1,⟨o,hl,ho⟩,h3⟩:=h;obtain ⟨v',P1,e,k,_⟩:=r.see ho;rw [h1] at e;cases e;unfold RA;exact ⟨v,vs',o,P1,rfl,hl,k,Ak.ra r h3⟩
theorem AV.go {g0:G} {P0:Fp} {H0:Hp} {o:Nat} {d:Dv} {v:V} (s:Step g0 P0 H0 g P H) (r:Rel K g H Γ m σ P) (n:AV K g H o d v H') :
    ∃ Pv,Step g0 P0 H0 g (fun a=>P a\/Pv a) H'/\Rep K g H' o d v Pv/\Rel K g H' Γ m σ P/\Disj P Pv:=by
  obtain ⟨sm,Pv,h1,h2⟩:=n;refine ⟨Pv,s.trans ⟨fun b o h _=>sm b o h,(Step.same (g:=g) (P:=nop) sm).dom,fun _ h=>h,fun _ h=>.inl h,⟨[],by simp⟩,fun a h=>h.elim .inl fun q=>.inr (h2 a q),(Step.same (g:=g) (P:=nop) sm).zd⟩,h1,r.same sm,fun a q z=>r.fpOk.new (h2 a z) q⟩
theorem Bm {p:Pr} {o:Nat} {as:List Ar} {js:List Nat} {R:UB} (hp:AE K p o R) (c:AC Γ as Γ' js) {Q:VK} (h:tE K Γ o Γ' js (DY p (AQ as)) σ H Q):Bn K as σ H fun vs H1=>R vs H1 Q:=by
 obtain ⟨g,m,P,r,R',k,res,e,q⟩:=h;refine AI as r c e fun ds m' g' P' vs H1 hk ag s ar r1=>?_
 obtain ⟨d,e1,e2⟩:=bind_some' hk;refine hp g' H1 ds vs d Q r1.zd (ar.ra r1) e1 fun v H2 nw=>?_
 obtain ⟨Pv,s2,h1,r2,n2⟩:=AV.go s r1 nw;exact q d m' g' P' Pv v H2 e2 ag s2 h1 r2 n2
end
def HP (r:R2):UB:=fun vs H Q=>match vs with | [x,y]=>r x y H Q | _=>False
def bf (r:V->Hp->VK->Prop):UB:=fun vs H Q=>match vs with | [x]=>r x H Q | _=>False
def MZ (d:Dv):Ev Dv:=fun _ m k=>k d m
def Nj (i:Nat):Ev Dv:=fun _ m k=>k (m.at i) m
section
variable {X:Cx} {e:Expr} {Γ Γ':Gm} {js:List Nat} {o:Nat} {f:Ev Dv}
theorem bX {v:V} {d:Dv} (h:PE X e (tC v)) (hd:∀ g H,Rep X.K g H o d v nop):PE X e (tE X.K Γ o Γ [] (MZ d)):=PE.imp h fun σ H Q q=>by
 obtain ⟨g,m,P,r,R,k,res,e,q⟩:=q;exact q d m g P nop v H e BW.refl (Step.refl.less fun _ q=>q.elim id False.elim) (hd g H) r fun _ _ z=>z
theorem cR {i:Nat} (h:PE X e (HS i)) {o:Nat} (hi:Γ[i]?=some (some o)):PE X e (tE X.K Γ 0 (Γ.set i (some 0)) [] (Nj i)):=PE.imp h fun σ H Q q=>by
 obtain ⟨g,m,P,r,R,k,res,e,q⟩:=q;obtain ⟨g',P',v,s,r',ev,rv⟩:=r.freeze hi;exact ⟨v,ev,q _ m g' P' nop v H e BW.refl (s.less fun _ q=>q.elim id False.elim) rv r' fun _ _ z=>z⟩
theorem cU {i:Nat} (h:PE X e (HS i)) (hi:Γ[i]?=some (some o)):PE X e (tE X.K Γ o (Γ.set i none) [] (Nj i)):=PE.imp h fun σ H Q q=>by
 obtain ⟨g,m,P,r,R,k,res,e,q⟩:=q;obtain ⟨v,P1,P2,ev,_,rv,r2,n,hP⟩:=r.take hi;exact ⟨v,ev,q _ m g P2 P1 v H e BW.refl (Step.refl.less fun a q=>(hP a).mpr q.symm) rv r2 fun a q z=>n a z q⟩
theorem DT (h:PE X e (tE X.K Γ o Γ' js f)):PE X e (tE X.K Γ 0 Γ' js f):=PE.imp h fun σ H Q q=>by
 obtain ⟨g,m,P,r,R,k,res,e,q⟩:=q;refine ⟨g,m,P,r,R,k,res,e,fun d m' g' P' Pv v H' hk ag s rv r1 n=>?_⟩;have st:Step g' Pv H' (g'.add Pv) nop H':=Step.freeze rv.fpOk;refine q d m' (g'.add Pv) P' nop v H' hk ag (s.trans ?_) (rv.freeze fun _ q=>q) (r1.held st rv.fpOk n) fun _ _ z=>z
 exact (st.frame (R:=P')).sub (fun a q=>q.symm) fun a q=>q.elim .inr False.elim
end
def Nk (t:List Dv->Dv) (fa:Ev (List Dv)):Ev Dv:=fun R m k=>fa R m fun ds m'=>if ds.length<=1000000 then k (t ds) m' else none
noncomputable def evd:List Ar->Bool
 | []=>true
 | .ev _ _ _ _::as=>evd as
 | .rf _::_=>false
theorem Ak.reps {K:W.Frag} {g:G} {H:Hp} {Γ:Gm} {m:M} {σ:St}:∀ {as:List Ar} {ds:List Dv} {vs:List V},evd as=true->Ak K g H Γ m σ as ds vs->Reps K g H 0 ds vs nop
 | [],ds,vs,_,h=>by unfold Ak at h;obtain ⟨rfl,rfl⟩:=h;exact Reps.nil
 | .ev _ _ _ f::as,ds,vs,e,h=>by
  unfold Ak at h;obtain ⟨d,v,ds',vs',rfl,rfl,h1,h2⟩:=h;exact (Reps.cons h1 (Ak.reps (by unfold evd at e;exact e) h2) fun _ z=>z.elim).iff fun a=>⟨fun z=>z.elim,fun z=>z.elim id id⟩
 | .rf i::as,ds,vs,e,h=>by unfold evd at e;cases e
section
variable {X:Cx} {es:List Expr} {Γ Γ':Gm} {js:List Nat} {as:List Ar} {pos:Pos}
theorem cS {x1} (hq:PA X es (Bn X.K as)) (c:AC Γ as Γ' js) (he:evd as=true):PE X (.Tuple es x1 pos) (tE X.K Γ 1 Γ' js (Nk .tup (AQ as))):=PE.imp (ZQ hq) fun σ H Q q=>by
 obtain ⟨g,m,P,r,R,k,res,e,q⟩:=q;refine AI as r c e fun ds m' g' P' vs H1 hk ag s ar r1=>?_
 split at hk
 ·rename_i hz;have rp:=ar.reps he;refine ⟨by rw [<- rp.len];exact Nat.le_trans hz (by decide),fun p hp=>?_⟩;have sm:=ET hp (.tup vs);have st:=Step.same (g:=g') (P:=nop) sm;refine q _ m' g' P' nop (.ref p) _ hk ag ((s.trans (Step.same sm)).less fun _ q=>q.elim id False.elim) ?_ (r1.same sm) fun _ _ z=>z
  unfold Rep;exact ⟨p,vs,rfl,Bh,rp.held st FpOk.nop fun _ _ z=>z⟩
 ·cases hk
theorem AV.lst {K:W.Frag} {g:G} {H:Hp} {ds:List Dv} {vs:List V} {p:Addr} (zd:Zd g H) (rp:Reps K g H 0 ds vs nop) (hp:H p=none):AV K g H 1 (.lst ds) (.ref p) (upd H p (.lst vs)):=by
 have sm:=ET hp (.lst vs);refine ⟨sm,fun b=>b=p,?_,fun a q=>q▸hp⟩;unfold Rep;exact ⟨p,vs,nop,rfl,⟨Bh,(fun z=>by cases z),fun _ z=>zd p z hp⟩,rp.held (Step.same (g:=g) (P:=nop) sm) FpOk.nop fun _ _ z=>z,fun z=>z,fun b=>⟨fun z=>.inl ⟨by decide,z⟩,fun z=>z.elim (fun z=>z.2) False.elim⟩⟩
theorem cV (hq:PA X es (Bn X.K as)) (c:AC Γ as Γ' js) (he:evd as=true):PE X (.List es pos) (tE X.K Γ 1 Γ' js (Nk .lst (AQ as))):=PE.imp (ZV hq) fun σ H Q q=>by
 obtain ⟨g,m,P,r,R,k,res,e,q⟩:=q;refine AI as r c e fun ds m' g' P' vs H1 hk ag s ar r1=>?_
 split at hk
 ·rename_i hz;have rp:=ar.reps he;refine ⟨by rw [<- rp.len];exact Nat.le_trans hz (by decide),fun p hp=>?_⟩;obtain ⟨Pv,s2,h1,r2,n2⟩:=AV.go s r1 (AV.lst r1.zd rp hp);exact q _ m' g' P' Pv (.ref p) _ hk ag s2 h1 r2 n2
 ·cases hk
end
def Dw:List Nat->Type
 | []=>Unit
 | [_]=>Dv
 | _::i::J=>Dv×Dw (i::J)
noncomputable def AU:(J:List Nat)->M->Dw J
 | [],_=>()
 | [i],m=>m.at i
 | i::j::J,m=>(m.at i,AU (j::J) m)
noncomputable def AW:(J:List Nat)->M->Dw J->M
 | [],m,_=>m
 | [i],m,d=>m.set i d
 | i::j::J,m,t=>AW (j::J) (m.set i t.1) t.2
theorem Qu {m:M} {i:Nat} {d:Dv} (h:i < m.length):M.at (m.set i d) i=d:=Ic (List.getElem?_set_self h)
theorem Gc:∀ (J:List Nat) (m:M) (t:Dw J),(AW J m t).length=m.length
 | [],_,_=>rfl
 | [i],m,d=>List.length_set ..
 | i::j::J,m,t=>by unfold AW;rw [Gc];exact List.length_set ..
theorem AO:∀ (J:List Nat) (m:M) (t:Dw J),BW J m (AW J m t)
 | [],_,_=>BW.refl
 | [i],m,d=>BW.set
 | i::j::J,m,t=>by
  unfold AW;exact (BW.set (i:=i)).trans (AO (j::J) _ _)
theorem NV:∀ (J:List Nat) (m m':M) (i:Nat),i < m.length->i∈J->M.at (AW J m (AU J m')) i=m'.at i
 | [],_,_,_,_,h=>by cases h
 | [i],m,m',k,hk,h=>by
  have e:=List.mem_singleton.mp h;subst e;exact Qu hk
 | i::j::J,m,m',k,hk,h=>by
  show M.at (AW (j::J) (m.set i (m'.at i)) (AU (j::J) m')) k=_
  by_cases z:k∈j::J
  ·exact NV (j::J) _ m' k (by rw [List.length_set];exact hk) z
  ·rw [(AO (j::J) _ _).2 k z];rcases List.mem_cons.mp h with e | e
   ·subst e;exact Qu hk
   ·exact (z e).elim
def Aq (Γ:Gm) (js:List Nat):List Nat:=(List.range Γ.length).filter fun i=>js.contains i && (Γ.getD i none).isSome
theorem BH {Γ:Gm} {js:List Nat} {i o:Nat} (h:Γ[i]?=some (some o)):i∈Aq Γ js\/i∉js:=by
 by_cases e:i∈js
 ·refine .inl (List.mem_filter.mpr ⟨List.mem_range.mpr (List.getElem?_eq_some_iff.mp h).1,?_⟩);rw [Bool.and_eq_true,List.contains_iff_mem,List.getD_eq_getElem?_getD,h];exact ⟨e,rfl⟩
 ·exact .inr e
theorem Ap {Γ:Gm} {js:List Nat} {i:Nat} (h:i∈Aq Γ js):i∈js:=by
 have:=(List.mem_filter.mp h).2;rw [Bool.and_eq_true,List.contains_iff_mem] at this;exact this.1
theorem Rel.join {K:W.Frag} {g:G} {H:Hp} {Γ:Gm} {m m':M} {σ:St} {P:Fp} {J js:List Nat} (r:Rel K g H Γ m' σ P) (ag:BW js m m') (hj:∀ i o,Γ[i]?=some (some o)->i∈J\/i∉js):Rel K g H Γ (AW J m (AU J m')) σ P:=by
 refine r.agree ((Gc ..).trans ag.1.symm) fun i o e=>?_
 have hi:i < m.length:=by rw [<- ag.1,r.len.1];exact (List.getElem?_eq_some_iff.mp e).1
 by_cases z:i∈J
 ·exact NV J m m' i hi z
 ·rw [(AO J m _).2 i z];exact (ag.2 i ((hj i o e).elim (fun q=>(z q).elim) id)).symm
def Xs (p:List Dv->Option Bool) (fa:Ev (List Dv)):Ev Bool:=fun R m k=>fa R m fun ds m'=>(p ds).bind fun b=>k b m'
def Mc (f:Ev Bool):Ev Dv:=fun R m k=>f R m fun b m'=>k (.bl b) m'
def Xq (f:Ev Bool):Ev Bool:=fun R m k=>f R m fun b m'=>k (!b) m'
def HB {α:Type} (c:Ev Bool) (f g:Ev α):Ev α:=fun R m k=>c R m fun b m1=>if b=true then f R m1 k else g R m1 k
def Jn (α:Type):List Nat->Type
 | []=>α
 | i::J=>α×Dw (i::J)
def Xd {α:Type}:(J:List Nat)->α->M->Jn α J
 | [],a,_=>a
 | i::J,a,m=>(a,AU (i::J) m)
def hX {α R:Type}:(J:List Nat)->M->Jn α J->(α->M->Option R)->Option R
 | [],m,a,k=>k a m
 | i::J,m,t,k=>k t.1 (AW (i::J) m t.2)
theorem QI {α R:Type} (J:List Nat) (m m':M) (a:α) (k:α->M->Option R):hX J m (Xd J a m') k=k a (AW J m (AU J m')):=by cases J<;>rfl
def Ma {α:Type} (J:List Nat) (f:Ev α):Ev α:=fun R m k=>(f (Jn α J) m fun a m'=>some (Xd J a m')).bind fun t=>hX J m t k
section
variable {K:W.Frag} {Γ Γ' Γ2 Γ3:Gm} {js js2 js3 J:List Nat} {σ:St} {H:Hp} {o:Nat}
theorem Fo {f:Ev Dv} {Q:VK} (hj:∀ i o,Γ'[i]?=some (some o)->i∈J\/i∉js) (hs:∀ i∈J,i∈js) (h:tE K Γ o Γ' js (Ma J f) σ H Q):tE K Γ o Γ' js f σ H Q:=by
 obtain ⟨g,m,P,r,R,k,res,e,q⟩:=h;obtain ⟨t,e1,e2⟩:=bind_some' e;refine ⟨g,m,P,r,_,_,t,e1,fun d m' g' P' Pv v H' hk ag s rv r1 n=>?_⟩;cases hk;rw [QI] at e2;exact q d _ g' P' Pv v H' e2 ((AO J m _).mono hs) s rv (r1.join ag hj) n
theorem Nb {f:Ev Bool} {Q:Bool->Hp->Prop} (hj:∀ i o,Γ'[i]?=some (some o)->i∈J\/i∉js) (hs:∀ i∈J,i∈js) (h:tT K Γ Γ' js (Ma J f) σ H Q):tT K Γ Γ' js f σ H Q:=by
 obtain ⟨g,m,P,r,R,k,res,e,q⟩:=h;obtain ⟨t,e1,e2⟩:=bind_some' e;refine ⟨g,m,P,r,_,_,t,e1,fun d m' g' P' H' hk ag s r1=>?_⟩;cases hk;rw [QI] at e2;exact q d _ g' P' H' e2 ((AO J m _).mono hs) s (r1.join ag hj)
theorem NG {f:Ev Bool} {Q:Bool->Hp->Prop} (hw:BQ Γ2 Γ'=true) (hs:∀ i∈js,i∈js2) (h:tT K Γ Γ2 js2 f σ H Q):tT K Γ Γ' js f σ H Q:=by
 obtain ⟨g,m,P,r,R,k,res,e,q⟩:=h;refine ⟨g,m,P,r,R,k,res,e,fun b m' g' P' H' hk ag s r1=>?_⟩;obtain ⟨g2,P2,s2,r2⟩:=r1.weaken hw;exact q b m' g2 P2 H' hk (ag.mono hs) (s.trans s2) r2
theorem Fj {f:Ev Dv} {Q:VK} (hw:BQ Γ2 Γ'=true) (hs:∀ i∈js,i∈js2) (h:tE K Γ 0 Γ2 js2 f σ H Q):tE K Γ 0 Γ' js f σ H Q:=by
 obtain ⟨g,m,P,r,R,k,res,e,q⟩:=h;refine ⟨g,m,P,r,R,k,res,e,fun b m' g' P' Pv v H' hk ag s rv r1 n=>?_⟩;obtain ⟨g2,P2,s2,r2⟩:=r1.weaken hw;exact q b m' g2 P2 nop v H' hk (ag.mono hs) (((s.less fun _ q=>.inl q).trans s2).less fun _ q=>q.elim id False.elim) (rv.z.held s2 r1.fpOk fun _ z=>z.elim) r2 fun _ _ z=>z
theorem eg {p:List Dv->Option Bool} {as:List Ar} {r:UB} (hp:AE K (fun ds=>(p ds).map .bl) 0 r) (c:AC Γ as Γ' js) {Q:Bool->Hp->Prop} (h:tT K Γ Γ' js (Xs p (AQ as)) σ H Q):Bn K as σ H fun vs H1=>r vs H1 fun x H'=>∃ k,x=.bl k/\Q k H':=by
 obtain ⟨g,m,P,rl,R',k,res,e,q⟩:=h;refine AI as rl c e fun ds m' g' P' vs H1 hk ag s ar r1=>?_
 obtain ⟨b,e1,e2⟩:=bind_some' hk;refine hp g' H1 ds vs (.bl b) _ r1.zd (ar.ra r1) (by show (p ds).map _=_;rw [e1];rfl) fun v H2 nw=>?_
 obtain ⟨Pv,s2,h1,r2,n2⟩:=AV.go s r1 nw;refine ⟨b,by unfold Rep at h1;exact h1.1,q b m' g' P' H2 e2 ag (s2.less fun _ q=>.inl q) r2⟩
theorem rep_bl {g:G} {o:Nat} {b:Bool} {v:V} {P:Fp} (h:Rep K g H o (.bl b) v P):v=.bl b:=by unfold Rep at h;exact h.1
theorem CL {g:G} {b:Bool}:Rep K g H o (.bl b) (.bl b) nop:=by unfold Rep;exact ⟨rfl,fun _ z=>z⟩
theorem QS {t u:Ev Bool} {Q:Bool->Hp->Prop} (h:tT K Γ Γ' (js++js2) (HB t u (fun R m k=>k false m)) σ H Q) (hw:BQ Γ' Γ2=true):cE (tT K Γ Γ2 js t) (tT K Γ2 Γ' js2 u) σ H Q:=by
 obtain ⟨g,m,P,r,R,k,res,e,q⟩:=h;refine ⟨g,m,P,r,R,_,res,e,fun b m1 g1 P1 H1 hk ag s r1=>?_⟩;cases b with
 | true =>
  rw [if_pos rfl] at hk ⊢;exact ⟨g1,m1,P1,r1,R,k,res,hk,fun c m2 g2 P2 H2 hk2 ag2 s2 r2=>q c m2 g2 P2 H2 hk2 (ag.trans ag2) (s.trans s2) r2⟩
 | false =>
  rw [if_neg Bool.false_ne_true] at hk ⊢;obtain ⟨g2,P2,s2,r2⟩:=r1.weaken hw;exact q false m1 g2 P2 H1 hk (ag.mono fun _ z=>List.mem_append_left _ z) (s.trans s2) r2
theorem bp {t u:Ev Bool} {Q:Bool->Hp->Prop} (h:tT K Γ Γ' (js++js2) (HB t (fun R m k=>k true m) u) σ H Q) (hw:BQ Γ' Γ2=true):iD (tT K Γ Γ2 js t) (tT K Γ2 Γ' js2 u) σ H Q:=by
 obtain ⟨g,m,P,r,R,k,res,e,q⟩:=h;refine ⟨g,m,P,r,R,_,res,e,fun b m1 g1 P1 H1 hk ag s r1=>?_⟩;cases b with
 | false =>
  rw [if_neg Bool.false_ne_true] at hk ⊢;exact ⟨g1,m1,P1,r1,R,k,res,hk,fun c m2 g2 P2 H2 hk2 ag2 s2 r2=>q c m2 g2 P2 H2 hk2 (ag.trans ag2) (s.trans s2) r2⟩
 | true =>
  rw [if_pos rfl] at hk ⊢;obtain ⟨g2,P2,s2,r2⟩:=r1.weaken hw;exact q true m1 g2 P2 H1 hk (ag.mono fun _ z=>List.mem_append_left _ z) (s.trans s2) r2
theorem YR {t:Ev Bool} {Q:Bool->Hp->Prop} (h:tT K Γ Γ' js (Xq t) σ H Q):bw (tT K Γ Γ' js t) σ H Q:=by
 obtain ⟨g,m,P,r,R,k,res,e,q⟩:=h;exact ⟨g,m,P,r,R,_,res,e,fun b m1 g1 P1 H1 hk ag s r1=>q (!b) m1 g1 P1 H1 hk ag s r1⟩
theorem bz {c:Ev Bool} {fa fb:Ev Dv} {Q:VK} (h:tE K Γ 0 Γ' (js++(js2++js3)) (HB c fa fb) σ H Q):iE (tT K Γ Γ2 js c) (tE K Γ2 0 Γ' js2 fa) (tE K Γ2 0 Γ' js3 fb) σ H Q:=by
 obtain ⟨g,m,P,r,R,k,res,e,q⟩:=h;refine ⟨g,m,P,r,R,_,res,e,fun b m1 g1 P1 H1 hk ag s r1=>?_⟩;cases b with
 | true =>
  rw [if_pos rfl] at hk ⊢;exact ⟨g1,m1,P1,r1,R,k,res,hk,fun d m2 g2 P2 Pv v H2 hk2 ag2 s2 rv r2 n=>q d m2 g2 P2 Pv v H2 hk2 ((ag.trans ag2).mono fun i z=>(List.mem_append.mp z).elim (fun z=>List.mem_append_left _ z) fun z=>List.mem_append_right _ (List.mem_append_left _ z)) (s.trans s2) rv r2 n⟩
 | false =>
  rw [if_neg Bool.false_ne_true] at hk ⊢;exact ⟨g1,m1,P1,r1,R,k,res,hk,fun d m2 g2 P2 Pv v H2 hk2 ag2 s2 rv r2 n=>q d m2 g2 P2 Pv v H2 hk2 ((ag.trans ag2).mono fun i z=>(List.mem_append.mp z).elim (fun z=>List.mem_append_left _ z) fun z=>List.mem_append_right _ (List.mem_append_right _ z)) (s.trans s2) rv r2 n⟩
end
structure Kt (R:Type) where
 nx:M->Option R
 rt:Dv->M->Option R
 bk:M->Option R
 ct:M->Option R
noncomputable abbrev Es:=(R:Type)->M->Kt R->Option R
def Io (io:List Nat) (σ σ':St):Prop:=∀ i∈io,σ'[i]?=σ[i]?
theorem Io.refl {io:List Nat} {σ:St}:Io io σ σ:=fun _ _=>rfl
theorem Io.trans {io:List Nat} {σ σ1 σ2:St} (a:Io io σ σ1) (b:Io io σ1 σ2):Io io σ σ2:=fun i h=>(b i h).trans (a i h)
theorem Io.set {io:List Nat} {σ:St} {i:Nat} {x:Option V} (h:i∉io):Io io σ (σ.set i x):=fun j hj=>List.getElem?_set_ne fun z=>h (by rw [z];exact hj)
structure Fr where
 io:List Nat
 Γr:Gm
 ro:Nat
structure AcS (K:W.Frag) (F:Fr) (Γl:Option Gm) (g:G) (P:Fp) (H:Hp) (σ:St) (D:Ends) (Γn:Option Gm) (js:List Nat) (m:M) {R:Type} (k:Kt R) (r:R):Prop where
 nx:∀ Γ' m' g' P' σ' H',Γn=some Γ'->k.nx m'=some r->BW js m m'->Step g P H g' P' H'->Io F.io σ σ'->Rel K g' H' Γ' m' σ' P'->D.nx σ' H'
 rt:∀ d m' g' P' Pv σ' v H',k.rt d m'=some r->BW js m m'->Step g P H g' (fun a=>P' a\/Pv a) H'->Io F.io σ σ'->Rep K g' H' F.ro d v Pv->Rel K g' H' F.Γr m' σ' P'->Disj P' Pv->D.rt v H'
 bk:∀ Γ' m' g' P' σ' H',Γl=some Γ'->k.bk m'=some r->BW js m m'->Step g P H g' P' H'->Io F.io σ σ'->Rel K g' H' Γ' m' σ' P'->D.bk σ' H'
 ct:∀ Γ' m' g' P' σ' H',Γl=some Γ'->k.ct m'=some r->BW js m m'->Step g P H g' P' H'->Io F.io σ σ'->Rel K g' H' Γ' m' σ' P'->D.ct σ' H'
def tS (K:W.Frag) (F:Fr) (Γl:Option Gm) (Γ:Gm) (Γn:Option Gm) (js:List Nat) (f:Es):TS:=fun D σ H=>∃ g m P,Rel K g H Γ m σ P/\∃ (R:Type) (k:Kt R) (r:R),f R m k=some r/\AcS K F Γl g P H σ D Γn js m k r
theorem AcS.later {K:W.Frag} {F:Fr} {Γl Γn:Option Gm} {g g1:G} {P P1:Fp} {H H1:Hp} {σ σ1:St} {D:Ends} {js ks:List Nat} {m m1:M} {R:Type} {k:Kt R} {r:R} (s:Step g P H g1 P1 H1) (i:Io F.io σ σ1) (ag:BW js m m1) (h:AcS K F Γl g P H σ D Γn (js++ks) m k r):AcS K F Γl g1 P1 H1 σ1 D Γn ks m1 k r:=
  ⟨fun Γ' m' g' P' σ' H' e hk a s' i' r'=>h.nx Γ' m' g' P' σ' H' e hk (ag.trans a) (s.trans s') (i.trans i') r',
   fun d m' g' P' Pv σ' v H' hk a s' i' rv r' n=>h.rt d m' g' P' Pv σ' v H' hk (ag.trans a) (s.trans s') (i.trans i') rv r' n,
   fun Γ' m' g' P' σ' H' e hk a s' i' r'=>h.bk Γ' m' g' P' σ' H' e hk (ag.trans a) (s.trans s') (i.trans i') r',
   fun Γ' m' g' P' σ' H' e hk a s' i' r'=>h.ct Γ' m' g' P' σ' H' e hk (ag.trans a) (s.trans s') (i.trans i') r'⟩
def HA:Es:=fun _ m k=>k.nx m
def eF (f g:Es):Es:=fun R m k=>f R m { k with nx:=fun m1=>g R m1 k }
def LF (c:Ev Bool) (f g:Es):Es:=fun R m k=>c R m fun b m1=>if b=true then f R m1 k else g R m1 k
def Xo (f:Ev Dv):Es:=fun R m k=>f R m k.rt
def SY (f:Ev Dv):Es:=fun R m k=>f R m fun _ m1=>k.nx m1
section
variable {X:Cx} {F:Fr} {Γl Γn Γn2:Option Gm} {Γ Γ' Γ2:Gm} {js js2 js3 J:List Nat} {s:Stmt} {ss rest a b:List Stmt} {e c:Expr} {pos:Pos} {f f2:Es} {fe:Ev Dv} {t:Ev Bool} {o:Nat}
theorem GJ {K:W.Frag} {D:Ends} {σ:St} {H:Hp} (h:tS K F Γl Γ (some Γ) [] HA D σ H):D.nx σ H:=by
 obtain ⟨g,m,P,r,R,k,res,e,q⟩:=h;exact q.nx Γ m g P σ H rfl e BW.refl Step.refl Io.refl r
theorem cM:DL X [] (tS X.K F Γl Γ (some Γ) [] HA):=DL.imp Uu fun D σ H h=>GJ h
theorem Yf:PS X (.Pass pos) (tS X.K F Γl Γ (some Γ) [] HA):=PS.imp Uv fun D σ H h=>GJ h
theorem cN {x j pos'}:PS X (.Expr (.Constant (.str x) j pos) pos') (tS X.K F Γl Γ (some Γ) [] HA):=PS.imp Yy fun D σ H h=>GJ h
theorem Yk (h1:PS X s (tS X.K F Γl Γ (some Γ2) js f)) (h2:DL X rest (tS X.K F Γl Γ2 Γn js2 f2)):DL X (s::rest) (tS X.K F Γl Γ Γn (js++js2) (eF f f2)):=DL.imp (Kg h1 h2) fun D σ H h=>by
 obtain ⟨g,m,P,r,R,k,res,e,q⟩:=h;refine ⟨g,m,P,r,R,_,res,e,⟨fun Γ' m' g' P' σ' H' e hk ag s' i' r'=>?_,fun d m' g' P' Pv σ' v H' hk ag=>q.rt d m' g' P' Pv σ' v H' hk (ag.mono fun _ z=>List.mem_append_left _ z),fun Γ' m' g' P' σ' H' e hk ag=>q.bk Γ' m' g' P' σ' H' e hk (ag.mono fun _ z=>List.mem_append_left _ z),fun Γ' m' g' P' σ' H' e hk ag=>q.ct Γ' m' g' P' σ' H' e hk (ag.mono fun _ z=>List.mem_append_left _ z)⟩⟩;cases e;exact ⟨g',m',P',r',R,k,res,hk,q.later s' i' ag⟩
theorem Yg (h1:PS X s (tS X.K F Γl Γ none js f)):DL X (s::rest) (tS X.K F Γl Γ none js f):=DL.imp (Kg h1 (u:=fun _ _ _=>False) fun _ _ _ _ _ _ z=>z.elim) fun D σ H h=>by
 obtain ⟨g,m,P,r,R,k,res,e,q⟩:=h;exact ⟨g,m,P,r,R,k,res,e,(fun _ _ _ _ _ _ e=>by cases e),q.rt,q.bk,q.ct⟩
theorem cL (h1:PS X s (tS X.K F Γl Γ Γn js f)):DL X [s] (tS X.K F Γl Γ Γn js f):=Ut h1
theorem cJ (hq:PE X e (tE X.K Γ F.ro F.Γr js fe)):PS X (.Return (some e) pos) (tS X.K F Γl Γ none js (Xo fe)):=PS.imp (Yw hq) fun D σ H h=>by
 obtain ⟨g,m,P,r,R,k,res,e,q⟩:=h;exact ⟨g,m,P,r,R,_,res,e,fun d m' g' P' Pv v H' hk ag s rv r1 n=>q.rt d m' g' P' Pv σ v H' hk ag s Io.refl rv r1 n⟩
theorem Yj (hq:PE X e (tE X.K Γ o Γ' js fe)) (hs:swapsWith e none pos.line X.env=pure false):PS X (.Expr e pos) (tS X.K F Γl Γ (some Γ') js (SY fe)):=PS.imp (Uw hq hs) fun D σ H h=>by
 obtain ⟨g,m,P,r,R,k,res,e,q⟩:=h;exact ⟨g,m,P,r,R,_,res,e,fun d m' g' P' Pv v H' hk ag s rv r1 n=>q.nx Γ' m' g' P' σ H' rfl hk ag (s.less fun _ q=>.inl q) Io.refl r1⟩
theorem gM (hc:PT X c (tT X.K Γ Γ2 js t)) (ha:DL X a (tS X.K F Γl Γ2 Γn js2 f)) (hb:DL X b (tS X.K F Γl Γ2 Γn js3 f2)):PS X (.If c a b pos) (tS X.K F Γl Γ Γn (js++(js2++js3)) (LF t f f2)):=PS.imp (dD hc ha hb) fun D σ H h=>by
 obtain ⟨g,m,P,r,R,k,res,e,q⟩:=h;refine ⟨g,m,P,r,R,_,res,e,fun b m1 g1 P1 H1 hk ag s r1=>?_⟩;have q2:=q.later s Io.refl ag;have mo:∀ (ks:List Nat),(∀ i∈ks,i∈js2++js3)->AcS X.K F Γl g1 P1 H1 σ D Γn ks m1 k res:=fun ks hks =>
  ⟨fun Γ' m' g' P' σ' H' e hk a=>q2.nx Γ' m' g' P' σ' H' e hk (a.mono hks),fun d m' g' P' Pv σ' v H' hk a=>q2.rt d m' g' P' Pv σ' v H' hk (a.mono hks),fun Γ' m' g' P' σ' H' e hk a=>q2.bk Γ' m' g' P' σ' H' e hk (a.mono hks),fun Γ' m' g' P' σ' H' e hk a=>q2.ct Γ' m' g' P' σ' H' e hk (a.mono hks)⟩
 cases b with
 | true=>rw [if_pos rfl] at hk;show (if true=true then _ else _);rw [if_pos rfl];exact ⟨g1,m1,P1,r1,R,k,res,hk,mo js2 fun _ z=>List.mem_append_left _ z⟩
 | false=>rw [if_neg Bool.false_ne_true] at hk;show (if false=true then _ else _);rw [if_neg Bool.false_ne_true];exact ⟨g1,m1,P1,r1,R,k,res,hk,mo js3 fun _ z=>List.mem_append_right _ z⟩
def JM:Option Gm->Option Gm->Bool
 | some a,some b=>BQ a b
 | _,none=>true
 | none,some _=>false
theorem Qv (h:DL X ss (tS X.K F Γl Γ Γn js f)) (hw:JM Γn2 Γn=true):DL X ss (tS X.K F Γl Γ Γn2 js f):=DL.imp h fun D σ H h=>by
 obtain ⟨g,m,P,r,R,k,res,e,q⟩:=h;refine ⟨g,m,P,r,R,k,res,e,fun Γ' m' g' P' σ' H' e hk ag s' i' r'=>?_,q.rt,q.bk,q.ct⟩;subst e;cases Γn2 with
 | none=>cases hw
 | some Γ3 =>
  obtain ⟨g2,P2,s2,r2⟩:=r'.weaken (by unfold JM at hw;exact hw);exact q.nx Γ3 m' g2 P2 σ' H' rfl hk ag (s'.trans s2) i' r2
def eI (J:List Nat) (f:Es):Es:=fun R m k=>(f (Dw J) m ⟨fun m'=>some (AU J m'),fun _ _=>none,fun _=>none,fun _=>none⟩).bind fun t=>k.nx (AW J m t)
theorem aC {K:W.Frag} {D:Ends} {σ:St} {H:Hp} (hj:∀ i o,Γ'[i]?=some (some o)->i∈J\/i∉js) (hs:∀ i∈J,i∈js) (h:tS K F Γl Γ (some Γ') js (eI J f) D σ H):tS K F Γl Γ (some Γ') js f D σ H:=by
 obtain ⟨g,m,P,r,R,k,res,e,q⟩:=h;obtain ⟨t,e1,e2⟩:=bind_some' e;refine ⟨g,m,P,r,_,_,t,e1,⟨fun Γ2 m' g' P' σ' H' e hk ag s' i' r'=>?_,(fun _ _ _ _ _ _ _ _ hk=>by cases hk),(fun _ _ _ _ _ _ _ hk=>by cases hk),fun _ _ _ _ _ _ _ hk=>by cases hk⟩⟩;cases e;cases hk;exact q.nx Γ' _ g' P' σ' H' rfl e2 ((AO J m _).mono hs) s' i' (r'.join ag hj)
end
noncomputable abbrev Tg:=(R:Type)->Dv->M->(M->Option R)->Option R
def Ag (js:List Nat) (σ σ':St):Prop:=σ'.length=σ.length/\∀ i,i∉js->σ'[i]?=σ[i]?
theorem Ag.io {js io:List Nat} {σ σ':St} (h:Ag js σ σ') (d:∀ i∈io,i∉js):Io io σ σ':=fun i hi=>h.2 i (d i hi)
theorem Ag.trans {js ks:List Nat} {σ σ1 σ2:St} (a:Ag js σ σ1) (b:Ag ks σ1 σ2):Ag (js++ks) σ σ2:=⟨b.1.trans a.1,fun i h=>(b.2 i fun z=>h (List.mem_append_right _ z)).trans (a.2 i fun z=>h (List.mem_append_left _ z))⟩
theorem Ag.set {σ:St} {i:Nat} {x:Option V}:Ag [i] σ (σ.set i x):=⟨List.length_set ..,fun j h=>List.getElem?_set_ne fun z=>h (by rw [z];exact List.mem_singleton_self _)⟩
def Mt (K:W.Frag) (Γ Γ':Gm) (js:List Nat) (tg:TG) (f:Tg):Prop:=∀ (g:G) (m:M) (P:Fp) (d:Dv) (v:V) (σ:St) (H:Hp) (R:Type) (k:M->Option R) (r:R) (Q:St->Hp->Prop),Rel K g H Γ m σ P->Rep K g H 0 d v nop->f R d m k=some r ->
 (∀ m' P' σ',k m'=some r->BW js m m'->(∀ a,P' a->P a)->Ag js σ σ'->Rel K g H Γ' m' σ' P'->Q σ' H)->tg v σ H Q
def bo (i:Nat):Tg:=fun _ d m k=>k (m.set i d)
theorem UT {K:W.Frag} {Γ:Gm} {i:Nat} (hi:i < Γ.length):Mt K Γ (Γ.set i (some 0)) [i] (DW i) (bo i):=fun g m P d v σ H R k r Q rl rv e q=>by
 obtain ⟨P2,r2,s⟩:=rl.setNew hi rv fun _ z=>z.elim
 exact q _ P2 _ e BW.set (fun a z=>(s a z).elim id False.elim) Ag.set r2
noncomputable def bW:(J:List Nat)->List Dv->Option (Dw J)
 | [],[]=>some ()
 | [_],[d]=>some d
 | _::j::J,d::ds=>(bW (j::J) ds).bind fun t=>some (d,t)
 | _,_=>none
def Pq (J:List Nat) (d:Dv):Option (Dw J):=match d with
 | .tup ds=>bW J ds
 | .lst ds=>bW J ds
 | _=>none
def iB (J:List Nat):Tg:=fun _ d m k=>(Pq J d).bind fun t=>k (AW J m t)
def EG:List Nat->Mv
 | []=>aM
 | i::J=>SM (DW i) (EG J)
def Ye (Γ:Gm) (J:List Nat) (x:Option Nat):Gm:=J.foldl (fun Γ i=>Γ.set i x) Γ
theorem IE {K:W.Frag}:∀ (J:List Nat) {Γ:Gm} {g:G} {m:M} {P:Fp} {ds:List Dv} {vs:List V} {σ:St} {H:Hp} {t:Dw J} {Q:St->Hp->Prop},(∀ i∈J,i < Γ.length)->Rel K g H Γ m σ P->Reps K g H 0 ds vs nop->bW J ds=some t ->
    (∀ P' σ',(∀ a,P' a->P a)->Ag J σ σ'->Rel K g H (Ye Γ J (some 0)) (AW J m t) σ' P'->Q σ' H)->ds.length=J.length/\EG J vs σ H Q
  | [],Γ,g,m,P,ds,vs,σ,H,t,Q,hJ,r,rv,e,q=>by
    cases ds with
    | nil =>
      unfold Reps at rv;exact ⟨rfl,rv.1,q P σ (fun _ z=>z) ⟨rfl,fun _ _=>rfl⟩ r⟩
    | cons d ds=>cases e
  | [i],Γ,g,m,P,ds,vs,σ,H,t,Q,hJ,r,rv,e,q=>by
    match ds,e with
    | [d],e =>
      cases e;unfold Reps at rv;obtain ⟨v,vr,P1,P2,rfl,h1,h2,_,h4⟩:=rv;unfold Reps at h2;obtain ⟨P3,r3,s⟩:=r.setNew (hJ i List.mem_cons_self) h1.z fun _ z=>z.elim
      exact ⟨rfl,v,vr,rfl,h2.1,q P3 _ (fun a z=>(s a z).elim id False.elim) Ag.set r3⟩
    | [],e=>cases e
    | _::_::_,e=>cases e
  | i::j::J,Γ,g,m,P,ds,vs,σ,H,t,Q,hJ,r,rv,e,q=>by
    match ds,e with
    | [],e=>cases e
    | d::ds,e =>
      obtain ⟨t',e1,e2⟩:=bind_some' (show (bW (j::J) ds).bind (fun t=>some (d,t))=some t from e);cases e2;unfold Reps at rv;obtain ⟨v,vr,P1,P2,rfl,h1,h2,_,h4⟩:=rv;obtain ⟨P3,r3,s⟩:=r.setNew (hJ i List.mem_cons_self) h1.z fun _ z=>z.elim
      have s':∀ a,P3 a->P a:=fun a z=>(s a z).elim id False.elim
      have:=IE (j::J) (Q:=Q) (fun k hk=>by rw [List.length_set];exact hJ k (List.mem_cons_of_mem _ hk)) r3 h2.z e1 fun P' σ' sp ag r'=>q P' σ' (fun a z=>s' a (sp a z)) (Ag.set.trans ag) r'
      exact ⟨by simp [this.1],v,vr,rfl,this.2⟩
abbrev eA (K:W.Frag) (n:Nat) (t:Mv):TG:=fun v σ H Q=>aL K n t v σ H Q\/aN n t v σ H Q
theorem QQ {K:W.Frag} {Γ:Gm} {J:List Nat} (hJ:∀ i∈J,i < Γ.length):Mt K Γ (Ye Γ J (some 0)) J (eA K J.length (EG J)) (iB J):=fun g m P d v σ H R k r Q rl rv e q=>by
 obtain ⟨t,e1,e2⟩:=bind_some' e;have go:∀ {ds vs},Reps K g H 0 ds vs nop->bW J ds=some t->ds.length=J.length/\EG J vs σ H Q:=fun h1 h2=>IE J hJ rl h1 h2 fun P' σ' sp ag r'=>q _ P' σ' e2 (AO J m t) sp ag r'
 cases d with
 | tup ds =>
  unfold Rep at rv;obtain ⟨a,vs,rfl,h1,h2⟩:=rv;obtain ⟨l,z⟩:=go h2 e1;exact .inl ⟨a,vs,rfl,.inl (.inl h1),by rw [<- h2.len];exact l,z⟩
 | lst ds =>
  unfold Rep at rv;obtain ⟨a,vs,P',rfl,h1,h2,_⟩:=rv;obtain ⟨l,z⟩:=go h2.z e1;exact .inr ⟨a,vs,rfl,h1.1,by rw [<- h2.len];exact l,z⟩
 | _=>cases e1
theorem PG.or {X:Cx} {e:Expr} {t u:TG} (h:PG X e t) (k:PG X e u):PG X e fun v σ H Q=>t v σ H Q\/u v σ H Q:=fun pins s σ H v w Q I r q=>q.elim (h pins s σ H v w Q I r) (k pins s σ H v w Q I r)
theorem aK {js:List Nat} {t u:TG} (h:QA js t) (k:QA js u):QA js fun v σ H Q=>t v σ H Q\/u v σ H Q:=fun x σ H Q q=>q.elim (fun q=>.inl (h x σ H Q q)) fun q=>.inr (k x σ H Q q)
theorem EF {js:List Nat}:∀ (J:List Nat),(∀ i∈J,i∈js)->Pn js (EG J)
 | [],_=>SK
 | i::J,h=>PD (h i List.mem_cons_self) (EF J fun k hk=>h k (List.mem_cons_of_mem _ hk))
def IM (f:Ev Dv) (tg:Tg):Es:=fun R m k=>f R m fun d m1=>tg R d m1 k.nx
section
variable {X:Cx} {F:Fr} {Γl:Option Gm} {Γ Γ' Γ2:Gm} {js js2:List Nat} {e tg:Expr} {pos pos':Pos} {fe:Ev Dv} {g:TG} {ft:Tg} {i o:Nat} {x:Str}
theorem Wv {K:W.Frag} (ht:Mt K Γ2 Γ' js2 g ft) (hio:∀ i∈F.io,i∉js2) {D:Ends} {σ:St} {H:Hp} (h:tS K F Γl Γ (some Γ') (js++js2) (IM fe ft) D σ H):Lq (tE K Γ 0 Γ2 js fe) g D σ H:=by
 obtain ⟨g0,m,P,r,R,k,res,e,q⟩:=h;refine ⟨g0,m,P,r,R,_,res,e,fun d m1 g' P' Pv v H' hk ag s rv r1 n=>ht g' m1 P' d v σ H' R k.nx res _ r1 rv.z hk fun m' P2 σ2 hk2 ag2 s2 i r2=>?_⟩;exact q.nx Γ' m' g' P2 σ2 H' rfl hk2 (ag.trans ag2) (s.less fun a z=>.inl (s2 a z)) (i.io hio) r2
theorem NM {K:W.Frag} (hi:i < Γ2.length) (hio:i∉F.io) {D:Ends} {σ:St} {H:Hp} (h:tS K F Γl Γ (some (Γ2.set i (some o))) (js++[i]) (IM fe (bo i)) D σ H):Lq (tE K Γ o Γ2 js fe) (DW i) D σ H:=by
 obtain ⟨g0,m,P,r,R,k,res,e,q⟩:=h;refine ⟨g0,m,P,r,R,_,res,e,fun d m1 g' P' Pv v H' hk ag s rv r1 n=>?_⟩;obtain ⟨P2,r2,s2⟩:=r1.setNew hi rv fun a q z=>n a z q
 exact q.nx _ _ g' P2 _ H' rfl hk (ag.trans BW.set) (s.less fun a z=>s2 a z) (Io.set hio) r2
theorem cI (hN:X.N.Nodup) (hix:X.N[i]?=some x) (hx:Loc X.env.scope x) (hio:i∉F.io) (hi:i < Γ2.length) (he:PE X e (tE X.K Γ o Γ2 js fe)) (hs:swapsWith e (some (.Name x pos')) pos.line X.env=pure false) (hf:X.fn x=true\/X.env.scope.names.lookup x=some .local) :
    PS X (.Assign [.Name x pos'] e pos) (tS X.K F Γl Γ (some (Γ2.set i (some o))) (js++[i]) (IM fe (bo i))):=PS.imp (Yv hN hix hx he hs hf) fun _ _ _ h=>NM hi hio h
theorem cP (he:PE X e (tE X.K Γ 0 Γ2 js fe)) (hg:PG X tg g) (ht:Mt X.K Γ2 Γ' js2 g ft) (hio:∀ i∈F.io,i∉js2) (hs:swapsWithSole [tg] e pos.line X.env=pure false) (hw:swappedStores [tg] e X.env=pure none)
    (h1:(assignEach [tg] X.env).map (·.2)=[assign tg X.env]):PS X (.Assign [tg] e pos) (tS X.K F Γl Γ (some Γ') (js++js2) (IM fe ft)):=PS.imp (RM he hg hs hw h1) fun _ _ _ h=>Wv ht hio h
end
def HM (g:G) (H:Hp) (g2:G) (H2:Hp):Prop:=∃ P P',Step g P H g2 P' H2/\FpOk g H P
def Yl (K:W.Frag) (J:It) (ds:List Dv) (g:G) (H:Hp):Prop:=∀ g2 H2,HM g H g2 H2 ->
 (∀ i d,ds[i]?=some d->J.go i H2/\∀ x H3,J.yld i H2 x H3->AV K g2 H2 0 d x H3)/\∀ i,ds.length<=i->J.stop i H2
def tI (K:W.Frag) (Γ Γ':Gm) (js:List Nat) (f:Ev (List Dv)):TI:=fun σ H Q=>∃ g m P,Rel K g H Γ m σ P/\∃ (R:Type) (k:List Dv->M->Option R) (r:R),f R m k=some r /\
 ∀ ds m' g' P' H' J,k ds m'=some r->BW js m m'->Step g P H g' P' H'->Rel K g' H' Γ' m' σ P'->Yl K J ds g' H'->Q J H'
theorem PI.imp {X:Cx} {tg e:Expr} {t t':TI} (h:PI X tg e t) (k:∀ σ H R,t' σ H R->t σ H R):PI X tg e t':=fun pins s σ H R I q=>h pins s σ H R I (k σ H R q)
theorem AV.old {K:W.Frag} {g:G} {H:Hp} {o:Nat} {d:Dv} {v:V} (h:Rep K g H o d v nop):AV K g H o d v H:=⟨fun _ _ q=>q,nop,h,fun _ z=>z.elim⟩
theorem HM.rep {K:W.Frag} {g g2:G} {H H2:Hp} {d:Dv} {v:V} (s:HM g H g2 H2) (h:Rep K g H 0 d v nop):Rep K g2 H2 0 d v nop:=by
 obtain ⟨P,P',st,ok⟩:=s;exact h.held st ok fun _ z=>z.elim
section
variable {τ γ ρ:Type}
inductive Lp (τ γ ρ:Type) where
 | go (c:γ) | bk (c:γ) | rt (d:τ) (r:ρ)
inductive Rs (τ γ ρ:Type) where
 | go (c:γ) | rt (d:τ) (r:ρ)
noncomputable def Rs.el {δ:Type} (x:Rs τ γ ρ) (f:γ->δ) (h:τ->ρ->δ):δ:=match x with | .go c=>f c | .rt d r=>h d r
noncomputable def BI (g:Dv->γ->Option γ):List Dv->γ->Option γ
 | [],c=>some c
 | x::xs,c=>(g x c).bind fun c1=>BI g xs c1
noncomputable def Bp (g:Dv->γ->Option (Lp τ γ ρ)):List Dv->γ->Option (Rs τ γ ρ)
 | [],c=>some (.go c)
 | x::xs,c=>(g x c).bind fun l=>match l with
  | .go c1=>Bp g xs c1
  | .bk c1=>some (.go c1)
  | .rt d r=>some (.rt d r)
noncomputable def UO (t:γ->Option Bool) (g:γ->Option γ):Nat->γ->Option γ
 | 0,_=>none
 | n+1,c=>(t c).bind fun b=>if b=true then (g c).bind (UO t g n) else some c
noncomputable def fw (t:γ->Option Bool) (g:γ->Option (Lp τ γ ρ)):Nat->γ->Option (Rs τ γ ρ)
 | 0,_=>none
 | n+1,c=>(t c).bind fun b=>if b=true then (g c).bind (fun l=>match l with
  | .go c1=>fw t g n c1
  | .bk c1=>some (.go c1)
  | .rt d r=>some (.rt d r)) else some (.go c)
end
def kC (J:List Nat):Kt (Dw J):=⟨fun m'=>some (AU J m'),fun _ _=>none,fun _=>none,fun m'=>some (AU J m')⟩
def kE (J Jr:List Nat):Kt (Lp Dv (Dw J) (Dw Jr)):=⟨fun m'=>some (.go (AU J m')),fun d m'=>some (.rt d (AU Jr m')),fun m'=>some (.bk (AU J m')),fun m'=>some (.go (AU J m'))⟩
def SX (src:Ev (List Dv)) (tg:Tg) (J:List Nat) (b:Es):Es:=fun R m k=>src R m fun ds m1 =>
 (BI (fun d t=>tg (Dw J) d (AW J m1 t) fun m2=>b (Dw J) m2 (kC J)) ds (AU J m1)).bind fun t=>k.nx (AW J m1 t)
def SW (src:Ev (List Dv)) (tg:Tg) (J Jr:List Nat) (b:Es):Es:=fun R m k=>src R m fun ds m1 =>
 (Bp (fun d t=>tg (Lp Dv (Dw J) (Dw Jr)) d (AW J m1 t) fun m2=>b (Lp Dv (Dw J) (Dw Jr)) m2 (kE J Jr)) ds (AU J m1)).bind fun x=>x.el (fun t=>k.nx (AW J m1 t)) fun d t=>k.rt d (AW Jr m1 t)
theorem MW {J:List Nat} {Γ:Gm} {K:W.Frag} {g:G} {H:Hp} {m:M} {σ:St} {P:Fp} (r:Rel K g H Γ m σ P):Rel K g H Γ (AW J m (AU J m)) σ P:=r.join (js:=[]) BW.refl fun _ _ _=>.inr (by simp)
theorem Nh {K:W.Frag} {F:Fr} {Γl0:Option Gm} {Γ Γt:Gm} {Γo:Option Gm} {jt jb:List Nat} {g:TG} {ft:Tg} {b:Es} {J Jr:List Nat} (ht:Mt K Γ Γt jt g ft) (hio:∀ i∈F.io,i∉jt) (hw:JM (some Γ) Γo=true)
    (hJ:J=Aq Γ (jt++jb)) (hJr:Jr=Aq F.Γr (jt++jb)) {ds:List Dv} {m1:M} {D:Ends} {σ:St} {H1:Hp} {g1:G} {P1:Fp} {I:It} {R:Type} {k:Kt R} {res:R}
    (r1:Rel K g1 H1 Γ m1 σ P1) (yl:Yl K I ds g1 H1) (run:List Dv->Dw J->Prop) (h0:run ds (AU J m1)) (hn:∀ t,run [] t->k.nx (AW J m1 t)=some res)
    (hc:∀ d ds t,run (d::ds) t->∃ (B:Type) (κ:Kt B) (r:B),ft B d (AW J m1 t) (fun m2=>b B m2 κ)=some r/\(∀ m',κ.nx m'=some r->run ds (AU J m'))/\(∀ m',κ.ct m'=some r->run ds (AU J m')) /\
      (∀ m',κ.bk m'=some r->k.nx (AW J m1 (AU J m'))=some res)/\∀ d m',κ.rt d m'=some r->k.rt d (AW Jr m1 (AU Jr m'))=some res)
    (q:AcS K F Γl0 g1 P1 H1 σ D (some Γ) (jt++jb) m1 k res) :
    ∃ W:Nat->Nat->St->Hp->Prop,(∃ m,W 0 m σ H1)/\∀ i m σ H,W i m σ H ->
      (I.stop i H/\D.nx σ H)\/(I.go i H/\∃ N:St->Hp->Prop,(∀ σ' H',N σ' H'->∃ m',m' < m/\W (i+1) m' σ' H')/\∀ x H',I.yld i H x H'->g x σ H' fun σ2 H2=>tS K F (some Γ) Γt Γo jb b { D with nx:=N,ct:=N,bk:=D.nx } σ2 H2):=by
  have sub:∀ i∈J,i∈jt++jb:=fun i h=>Ap (hJ▸h)
  have subr:∀ i∈Jr,i∈jt++jb:=fun i h=>Ap (hJr▸h)
  refine ⟨fun i j σ' H'=>j=ds.length - i/\i<=ds.length/\∃ g2 t P2,Step g1 P1 H1 g2 P2 H'/\Io F.io σ σ'/\Rel K g2 H' Γ (AW J m1 t) σ' P2/\run (ds.drop i) t,⟨ds.length,by simp,Nat.zero_le _,g1,AU J m1,P1,Step.refl,Io.refl,MW r1,by simpa using h0⟩,?_⟩;rintro i j σ2 H2 ⟨rfl,hi,g2,t,P2,s2,i2,r2,e2⟩;have st:HM g1 H1 g2 H2:=⟨P1,P2,s2,r1.fpOk⟩
  by_cases hlt:i < ds.length
  · rw [List.drop_eq_getElem_cons hlt] at e2;obtain ⟨B,κ,rB,e3,knx,kct,kbk,krt⟩:=hc _ _ _ e2;obtain ⟨go,yy⟩:=(yl g2 H2 st).1 i ds[i] (List.getElem?_eq_getElem hlt);refine .inr ⟨go,fun σ' H'=>∃ g5 P5 m',Step g1 P1 H1 g5 P5 H'/\Io F.io σ σ'/\Rel K g5 H' Γ m' σ' P5/\BW (jt++jb) m1 m'/\run (ds.drop (i+1)) (AU J m'),?_,fun x H3 hy=>?_⟩
    · rintro σ' H' ⟨g5,P5,m',s5,i5,r5,ag,hr⟩;exact ⟨ds.length - (i+1),by omega,rfl,hlt,g5,AU J m',P5,s5,i5,r5.join ag fun i o h=>hJ▸BH h,hr⟩
    · obtain ⟨Pv,s3,h3,r3,n3⟩:=AV.go s2 r2 (yy x H3 hy);refine ht g2 _ P2 ds[i] x σ2 H3 B _ rB _ r3 h3.z e3 fun m2 P' σ' hk ag sp ip r'=>?_
      have s4:Step g1 P1 H1 g2 P' H3:=s3.less fun a z=>.inl (sp a z)
      have i4:=i2.trans (ip.io hio);have a4:BW (jt++jb) m1 m2:=((AO J m1 t).mono sub).trans ag |>.mono fun i z=>(List.mem_append.mp z).elim id fun z=>List.mem_append_left _ z
      have a5:∀ {m'},BW jb m2 m'->BW (jt++jb) m1 m':=fun h=>(a4.trans h).mono fun i z=>(List.mem_append.mp z).elim id fun z=>List.mem_append_right _ z
      refine ⟨g2,m2,P',r',B,κ,rB,hk,⟨fun Γ' m' g' P'' σ'' H' e hk ag' s' i' rr=>?_,fun d m' g' P'' Pv σ'' v H' hk ag' s' i' rv rr n=>?_,fun Γ' m' g' P'' σ'' H' e hk ag' s' i' rr=>?_,fun Γ' m' g' P'' σ'' H' e hk ag' s' i' rr=>?_⟩⟩
      · subst e;obtain ⟨g6,P6,s6,r6⟩:=rr.weaken (by unfold JM at hw;exact hw);exact ⟨g6,P6,m',(s4.trans s').trans s6,i4.trans i',r6,a5 ag',knx m' hk⟩
      · exact q.rt d _ g' P'' Pv σ'' v H' (krt d m' hk) ((AO Jr m1 _).mono subr) (s4.trans s') (i4.trans i') rv (rr.join (a5 ag') fun i o h=>hJr▸BH h) n
      · cases e;exact q.nx Γ _ g' P'' σ'' H' rfl (kbk m' hk) ((AO J m1 _).mono sub) (s4.trans s') (i4.trans i') (rr.join (a5 ag') fun i o h=>hJ▸BH h)
      · cases e;exact ⟨g',P'',m',s4.trans s',i4.trans i',rr,a5 ag',kct m' hk⟩
  · have ei:i=ds.length:=by omega
    subst ei;rw [List.drop_length] at e2;exact .inl ⟨(yl g2 H2 st).2 _ (Nat.le_refl _),q.nx Γ _ g2 P2 σ2 H2 rfl (hn t e2) ((AO J m1 _).mono sub) s2 i2 r2⟩
section
variable {X:Cx} {F:Fr} {Γl0:Option Gm} {Γ Γ1 Γ2 Γt:Gm} {Γo:Option Gm} {js jt jb J Jr:List Nat} {tg iter:Expr} {body:List Stmt} {src:Ev (List Dv)} {g:TG} {ft:Tg} {b:Es} {pos:Pos}
theorem HM.pre {g g2 g3:G} {H H3:Hp} {P P2:Fp} (s:Step g P H g2 P2 H) (ok:FpOk g H P) (st:HM g2 H g3 H3):HM g H g3 H3:=by
 obtain ⟨P3,P3',s3,ok3⟩:=st;exact ⟨fun a=>P a\/P3 a,P3',(s.frame (R:=P3)).trans (s3.sub (fun _ z=>.inr z) fun _ z=>z),ok.or fun a z=>⟨(ok3 a z).1,fun w=>(ok3 a z).2 (s.zm a w)⟩⟩
theorem UP {K:W.Frag} {σ:St} {H:Hp} {Q:It->Hp->Prop} (hw:BQ Γ2 Γ1=true) (h:tI K Γ Γ2 js src σ H Q):tI K Γ Γ1 js src σ H Q:=by
 obtain ⟨g,m,P,r,R,k,res,e,q⟩:=h;refine ⟨g,m,P,r,R,k,res,e,fun ds m' g' P' H' J hk ag s r1 yl=>?_⟩;obtain ⟨g2,P2,s2,r2⟩:=r1.weaken hw;exact q ds m' g2 P2 H' J hk ag (s.trans s2) r2 fun g3 H3 st=>yl g3 H3 (st.pre s2 r1.fpOk)
theorem Yi (hp:PassesOwn (model X.prog X.w) X.A X.env X.xe) (hc:X.calm=true) (hi:PI X tg iter (tI X.K Γ Γ1 js src)) (hg:PG X tg g) (ht:Mt X.K Γ1 Γt jt g ft) (hio:∀ i∈F.io,i∉jt) (hb:DL X body (tS X.K F (some Γ1) Γt Γo jb b)) (hw:JM (some Γ1) Γo=true) (hJ:J=Aq Γ1 (jt++jb))
    (hs:∀ x,foldedSetIterable iter X.env x=pure x):PS X (.For tg iter body [] pos) (tS X.K F Γl0 Γ (some Γ1) (js++(jt++jb)) (SX src ft J b)):=PS.imp (RJ hp hc hi hg hb hs) fun D σ H h=>by
  obtain ⟨g0,m,P,r,R,k,res,e,q⟩:=h;refine ⟨g0,m,P,r,R,_,res,e,fun ds m1 g1 P1 H1 I hk ag s r1 yl=>?_⟩;obtain ⟨t,e1,e2⟩:=bind_some' hk;refine Nh (Jr:=Aq F.Γr (jt++jb)) ht hio hw hJ rfl r1 yl (fun ds t0=>BI _ ds t0=some t) e1 (fun t0 h=>?_) (fun d ds t0 h=>?_) (q.later s Io.refl ag)
  · cases h;exact e2
  · obtain ⟨t1,h1,h2⟩:=bind_some' h;refine ⟨Dw J,kC J,t1,h1,fun m' hk=>?_,fun m' hk=>?_,(fun m' hk=>by cases hk),fun d m' hk=>by cases hk⟩
    · cases hk;exact h2
    · cases hk;exact h2
theorem Yh (hp:PassesOwn (model X.prog X.w) X.A X.env X.xe) (hc:X.calm=true) (hi:PI X tg iter (tI X.K Γ Γ1 js src)) (hg:PG X tg g) (ht:Mt X.K Γ1 Γt jt g ft) (hio:∀ i∈F.io,i∉jt) (hb:DL X body (tS X.K F (some Γ1) Γt Γo jb b)) (hw:JM (some Γ1) Γo=true) (hJ:J=Aq Γ1 (jt++jb)) (hJr:Jr=Aq F.Γr (jt++jb))
    (hs:∀ x,foldedSetIterable iter X.env x=pure x):PS X (.For tg iter body [] pos) (tS X.K F Γl0 Γ (some Γ1) (js++(jt++jb)) (SW src ft J Jr b)):=PS.imp (RJ hp hc hi hg hb hs) fun D σ H h=>by
  obtain ⟨g0,m,P,r,R,k,res,e,q⟩:=h;refine ⟨g0,m,P,r,R,_,res,e,fun ds m1 g1 P1 H1 I hk ag s r1 yl=>?_⟩;obtain ⟨x,e1,e2⟩:=bind_some' hk;refine Nh ht hio hw hJ hJr r1 yl (fun ds t0=>Bp _ ds t0=some x) e1 (fun t0 h=>?_) (fun d ds t0 h=>?_) (q.later s Io.refl ag)
  · cases h;exact e2
  · obtain ⟨l,h1,h2⟩:=bind_some' h;refine ⟨_,kE J Jr,l,h1,fun m' hk=>?_,fun m' hk=>?_,fun m' hk=>?_,fun d m' hk=>?_⟩
    · cases hk;exact h2
    · cases hk;exact h2
    · cases hk;cases h2;exact e2
    · cases hk;cases h2;exact e2
end
def Xl (n:Nat) (c:Ev Bool) (J:List Nat) (b:Es):Es:=fun R m k =>
 (UO (fun t=>c Bool (AW J m t) fun b _=>some b) (fun t=>b (Dw J) (AW J m t) (kC J)) n (AU J m)).bind fun t=>k.nx (AW J m t)
def Xk (n:Nat) (c:Ev Bool) (J Jr:List Nat) (b:Es):Es:=fun R m k =>
 (fw (fun t=>c Bool (AW J m t) fun b _=>some b) (fun t=>b (Lp Dv (Dw J) (Dw Jr)) (AW J m t) (kE J Jr)) n (AU J m)).bind fun x=>x.el (fun t=>k.nx (AW J m t)) fun d t=>k.rt d (AW Jr m t)
theorem QD {K:W.Frag} {F:Fr} {Γl0:Option Gm} {Γ Γc:Gm} {Γo:Option Gm} {jb:List Nat} {c:Ev Bool} {b:Es} {J Jr:List Nat} (hwc:BQ Γ Γc=true) (hw:JM (some Γ) Γo=true)
    (hJ:J=Aq Γ jb) (hJr:Jr=Aq F.Γr jb) {m1:M} {D:Ends} {σ:St} {H1:Hp} {g1:G} {P1:Fp} {R:Type} {k:Kt R} {res:R}
    (r1:Rel K g1 H1 Γ m1 σ P1) (run:Nat->Dw J->Prop) {n:Nat} (h0:run n (AU J m1))
    (hc:∀ n t,run n t->∃ bb,c Bool (AW J m1 t) (fun b _=>some b)=some bb/\if bb=true then ∃ n',n' < n/\∃ (B:Type) (κ:Kt B) (r:B),b B (AW J m1 t) κ=some r/\(∀ m',κ.nx m'=some r->run n' (AU J m'))/\(∀ m',κ.ct m'=some r->run n' (AU J m')) /\
      (∀ m',κ.bk m'=some r->k.nx (AW J m1 (AU J m'))=some res)/\(∀ d m',κ.rt d m'=some r->k.rt d (AW Jr m1 (AU Jr m'))=some res) else k.nx (AW J m1 t)=some res)
    (q:AcS K F Γl0 g1 P1 H1 σ D (some Γ) jb m1 k res):QR (tT K Γ Γc [] c) (tS K F (some Γ) Γ Γo jb b) D σ H1:=by
  have sub:∀ i∈J,i∈jb:=fun i h=>Ap (hJ▸h)
  have subr:∀ i∈Jr,i∈jb:=fun i h=>Ap (hJr▸h)
  refine ⟨fun n σ' H'=>∃ g2 t P2,Step g1 P1 H1 g2 P2 H'/\Io F.io σ σ'/\Rel K g2 H' Γ (AW J m1 t) σ' P2/\run n t,⟨n,g1,AU J m1,P1,Step.refl,Io.refl,MW r1,h0⟩,?_⟩;rintro n' σ2 H2 ⟨g2,t,P2,s2,i2,r2,e2⟩;obtain ⟨bb,e3,e4⟩:=hc n' t e2;refine ⟨g2,_,P2,r2,Bool,_,bb,e3,fun b' m' g3 P3 H3 hk ag s3 r3=>?_⟩;cases hk;obtain ⟨g4,P4,s4,r4⟩:=r3.weaken hwc;have r5:Rel K g4 H3 Γ (AW J m1 t) σ2 P4:=r4.agree ag.1.symm fun i o _=>(ag.2 i (by simp)).symm
  have s5:=(s2.trans s3).trans s4;cases bb with
  | false=>rw [if_neg Bool.false_ne_true] at e4 ⊢;exact q.nx Γ _ g4 P4 σ2 H3 rfl e4 ((AO J m1 _).mono sub) s5 i2 r5
  | true =>
    rw [if_pos rfl] at e4 ⊢;obtain ⟨n2,hn,B,κ,rB,eb,knx,kct,kbk,krt⟩:=e4;have a5:∀ {m'},BW jb (AW J m1 t) m'->BW jb m1 m':=fun h=>(((AO J m1 t).mono sub).trans h).mono fun i z=>(List.mem_append.mp z).elim id id
    refine ⟨fun σ' H'=>∃ g5 P5 m',Step g1 P1 H1 g5 P5 H'/\Io F.io σ σ'/\Rel K g5 H' Γ m' σ' P5/\BW jb m1 m'/\run n2 (AU J m'),?_,g4,_,P4,r5,B,κ,rB,eb,⟨fun Γ' m' g' P'' σ'' H' e hk ag' s' i' rr=>?_,fun d m' g' P'' Pv σ'' v H' hk ag' s' i' rv rr n=>?_,fun Γ' m' g' P'' σ'' H' e hk ag' s' i' rr=>?_,fun Γ' m' g' P'' σ'' H' e hk ag' s' i' rr=>?_⟩⟩
    · rintro σ' H' ⟨g6,P6,m',s6,i6,r6,ag6,hr⟩;exact ⟨n2,hn,g6,AU J m',P6,s6,i6,r6.join ag6 fun i o h=>hJ▸BH h,hr⟩
    · subst e;obtain ⟨g6,P6,s6,r6⟩:=rr.weaken (by unfold JM at hw;exact hw);exact ⟨g6,P6,m',(s5.trans s').trans s6,i2.trans i',r6,a5 ag',knx m' hk⟩
    · exact q.rt d _ g' P'' Pv σ'' v H' (krt d m' hk) ((AO Jr m1 _).mono subr) (s5.trans s') (i2.trans i') rv (rr.join (a5 ag') fun i o h=>hJr▸BH h) n
    · cases e;exact q.nx Γ _ g' P'' σ'' H' rfl (kbk m' hk) ((AO J m1 _).mono sub) (s5.trans s') (i2.trans i') (rr.join (a5 ag') fun i o h=>hJ▸BH h)
    · cases e;exact ⟨g',P'',m',s5.trans s',i2.trans i',rr,a5 ag',kct m' hk⟩
section
variable {X:Cx} {F:Fr} {Γl0:Option Gm} {Γ Γc:Gm} {Γo:Option Gm} {jb J Jr:List Nat} {c:Expr} {body:List Stmt} {t:Ev Bool} {b:Es} {pos:Pos}
theorem cH (n:Nat) (hp:PassesOwn (model X.prog X.w) X.A X.env X.xe) (hc:PT X c (tT X.K Γ Γc [] t)) (hb:DL X body (tS X.K F (some Γ) Γ Γo jb b)) (hwc:BQ Γ Γc=true) (hw:JM (some Γ) Γo=true) (hJ:J=Aq Γ jb) :
    PS X (.While c body [] pos) (tS X.K F Γl0 Γ (some Γ) jb (Xl n t J b)):=PS.imp (Kh hp hc hb) fun D σ H h=>by
  obtain ⟨g0,m,P,r,R,k,res,e,q⟩:=h;obtain ⟨t',e1,e2⟩:=bind_some' e;refine QD (Jr:=Aq F.Γr jb) hwc hw hJ rfl r (fun n t0=>UO _ _ n t0=some t') e1 (fun n t0 h=>?_) q;cases n with
  | zero=>cases h
  | succ n =>
    obtain ⟨bb,h1,h2⟩:=bind_some' h;refine ⟨bb,h1,?_⟩;cases bb with
    | false=>rw [if_neg Bool.false_ne_true] at h2 ⊢;cases h2;exact e2
    | true =>
      rw [if_pos rfl] at h2 ⊢;obtain ⟨t1,h3,h4⟩:=bind_some' h2;refine ⟨n,Nat.lt_succ_self n,Dw J,kC J,t1,h3,fun m' hk=>?_,fun m' hk=>?_,(fun m' hk=>by cases hk),fun d m' hk=>by cases hk⟩
      · cases hk;exact h4
      · cases hk;exact h4
theorem cF (n:Nat) (hp:PassesOwn (model X.prog X.w) X.A X.env X.xe) (hc:PT X c (tT X.K Γ Γc [] t)) (hb:DL X body (tS X.K F (some Γ) Γ Γo jb b)) (hwc:BQ Γ Γc=true) (hw:JM (some Γ) Γo=true) (hJ:J=Aq Γ jb) (hJr:Jr=Aq F.Γr jb) :
    PS X (.While c body [] pos) (tS X.K F Γl0 Γ (some Γ) jb (Xk n t J Jr b)):=PS.imp (Kh hp hc hb) fun D σ H h=>by
  obtain ⟨g0,m,P,r,R,k,res,e,q⟩:=h;obtain ⟨x,e1,e2⟩:=bind_some' e;refine QD hwc hw hJ hJr r (fun n t0=>fw _ _ n t0=some x) e1 (fun n t0 h=>?_) q;cases n with
  | zero=>cases h
  | succ n =>
    obtain ⟨bb,h1,h2⟩:=bind_some' h;refine ⟨bb,h1,?_⟩;cases bb with
    | false=>rw [if_neg Bool.false_ne_true] at h2 ⊢;cases h2;exact e2
    | true =>
      rw [if_pos rfl] at h2 ⊢;obtain ⟨l,h3,h4⟩:=bind_some' h2;refine ⟨n,Nat.lt_succ_self n,_,kE J Jr,l,h3,fun m' hk=>?_,fun m' hk=>?_,fun m' hk=>?_,fun d m' hk=>?_⟩
      · cases hk;exact h4
      · cases hk;exact h4
      · cases hk;cases h4;exact e2
      · cases hk;cases h4;exact e2
end
end R
namespace Q
open PySem L2
inductive Dt where
 | non | bl (b:Bool) | int (i:Int) | str (x:List Nat)
 | tup (xs:List Dt) | lst (o:Bool) (xs:List Dt) | dic (o:Bool) (kvs:List (Dt×Dt)) | ref (k:Nat) | scr (ns:List Int) | ty (n:String) | mtp (ls:List (List Nat)) | dti (o:Bool) (kvs:List (List Int×Int))
 deriving Inhabited
structure G where
 Z:Addr->Prop
 μ:List Addr
noncomputable abbrev Fp:=Addr->Prop
def Disj (P Q:Fp):Prop:=∀ a,P a->Q a->False
def Lk (g:G) (H:Hp):Bool->Addr->List V->Prop
 | true,a,vs=>H a=some (.lst vs)/\¬ g.Z a
 | false,a,vs=>H a=some (.lst vs)/\g.Z a
def Scr (K:W.Frag) (H:Hp) (a:Addr) (ns:List Int):Prop:=(∃ o,H a=some (.frz o (.lst (ns.map V.int)))) \/
    ∃ (o:Obj) (its:Array Value) (n:Nat),K.lookup a=some o/\o.cls=.type "list" /\ o.dict=none/\o.data=.seq its n/\its.size<=sizeLine/\AD (ns.map V.int) its.toList
theorem Scr.sq {K:W.Frag} {H:Hp} {a:Addr} {ns:List Int} (h:Scr K H a ns):Bq K H a (ns.map V.int):=h.elim (fun h=>.inl (.inr h)) .inr
def Mtp (K:W.Frag) (a:Addr) (ls:List (List Nat)):Prop:=∃ (o:Obj) (its:Array Value) (n:Nat),K.lookup a=some o/\o.cls=.type "tuple" /\ o.data=.seq its n/\its.size<=sizeLine/\AD (ls.map fun l=>V.str (tx l)) its.toList
def encD (kvs:List (List Int×Int)):List (List Ii×V):=kvs.map fun p=>(p.1.map Sum.inl,V.int p.2)
mutual
noncomputable def Rep (K:W.Frag) (g:G) (H:Hp):Dt->V->Fp->Prop
 | .non,v,P=>v=.non/\∀ a,¬ P a
 | .bl b,v,P=>v=.bl b/\∀ a,¬ P a
 | .int i,v,P=>v=.int i/\∀ a,¬ P a
 | .str l,v,P=>v=.str (tx l)/\∀ a,¬ P a
 | .tup ds,v,P=>∃ a vs,v=.ref a/\H a=some (.tup vs)/\Reps K g H ds vs P
 | .lst o ds,v,P=>∃ a vs P',v=.ref a/\Lk g H o a vs/\Reps K g H ds vs P'/\¬ P' a/\(o=false->∀ b,¬ P' b)/\∀ b,P b↔(o=true/\b=a)\/P' b
 | .dic _ _,_,_=>False
 | .ref k,v,P=>(∃ a,g.μ[k]?=some a/\v=.ref a)/\∀ a,¬ P a
 | .scr ns,v,P=>(∃ a,v=.ref a/\Scr K H a ns)/\∀ a,¬ P a
 | .ty n,v,P=>v=.ty n/\∀ a,¬ P a
 | .mtp ls,v,P=>(∃ a,v=.ref a/\Mtp K a ls)/\∀ a,¬ P a
 | .dti o kvs,v,P=>∃ a,v=.ref a/\H a=some (.dT (encD kvs))/\(o=true->¬ g.Z a)/\(o=false->g.Z a)/\∀ b,P b↔(o=true/\b=a)
noncomputable def Reps (K:W.Frag) (g:G) (H:Hp):List Dt->List V->Fp->Prop
 | [],vs,P=>vs=[]/\∀ a,¬ P a
 | d::ds,vs,P=>∃ v r P1 P2,vs=v::r/\Rep K g H d v P1/\Reps K g H ds r P2/\Disj P1 P2/\∀ a,P a↔P1 a\/P2 a
end
mutual
noncomputable def Dt.cp:Dt->Bool
 | .tup ds=>cps ds
 | .lst o ds=>!o && cps ds
 | .dti o _=>!o
 | .dic _ _=>false
 | _=>true
noncomputable def cps:List Dt->Bool
 | []=>true
 | d::ds=>d.cp && cps ds
end
section
variable {K:W.Frag} {g g':G} {H H':Hp}
def nop:Fp:=fun _=>False
theorem nop_iff {R:Fp} (h:∀ a,¬ R a):R=nop:=funext fun a=>propext ⟨fun z=>(h a z).elim,fun z=>z.elim⟩
theorem Reps.nil:Reps K g H [] [] nop:=by unfold Reps;exact ⟨rfl,fun _ z=>z⟩
end
structure Ob where
 c:Nat
 fs:List (Str×Dt)
structure M where
 ρ:List (Option Dt)
 S:List Ob
noncomputable abbrev Ev (α:Type):=M->Option (α×M)
section
end
section
end
inductive Om where
 | ev (f:Ev Dt)
 | rf (i:Nat)
def RA (K:W.Frag) (g:G) (H:Hp):List Dt->List V->Prop
 | [],vs=>vs=[]
 | d::ds,vs=>∃ v r P,vs=v::r/\Rep K g H d v P/\RA K g H ds r
noncomputable abbrev Pr:=List Dt->Option Dt
section
end
section
variable {X:Cx} {a b c e:Expr} {es:List Expr} {pos:Pos} {oa ob oc:Om} {os:List Om} {f fa fb:Ev Dt} {p:Pr}
def evd:List Om->Bool
 | []=>true
 | .ev _::os=>evd os
 | .rf _::_=>false
end
def iL (f g:Ev Bool) (m:M):Option (Bool×M):=do
 let (b,m1) <- f m
 if b then g m1 else some (false,m1)
def evOr (f g:Ev Bool) (m:M):Option (Bool×M):=do
 let (b,m1) <- f m
 if b then some (true,m1) else g m1
section
variable {K:W.Frag} {σ:St} {H:Hp}
theorem rep_bl {g:G} {b:Bool} {v:V} {P:Fp} (h:Rep K g H (.bl b) v P):v=.bl b:=by unfold Rep at h;exact h.1
theorem rep_int {g:G} {b:Int} {v:V} {P:Fp} (h:Rep K g H (.int b) v P):v=.int b:=by unfold Rep at h;exact h.1
theorem rep_str {g:G} {b:List Nat} {v:V} {P:Fp} (h:Rep K g H (.str b) v P):v=.str (tx b):=by unfold Rep at h;exact h.1
theorem rep_non {g:G} {v:V} {P:Fp} (h:Rep K g H .non v P):v=.non:=by unfold Rep at h;exact h.1
theorem Rep.tup {g:G} {ds:List Dt} {v:V} {P:Fp} (h:Rep K g H (.tup ds) v P):∃ a vs,v=.ref a/\Ds K H a vs/\Reps K g H ds vs P:=by unfold Rep at h;obtain ⟨a,vs,e,h1,h2⟩:=h;exact ⟨a,vs,e,.inl (.inl h1),h2⟩
theorem Rep.lst {g:G} {o:Bool} {ds:List Dt} {v:V} {P:Fp} (h:Rep K g H (.lst o ds) v P):∃ a vs P',v=.ref a/\H a=some (.lst vs)/\Reps K g H ds vs P':=by
 unfold Rep at h;obtain ⟨a,vs,P',e,h1,h2,_⟩:=h;refine ⟨a,vs,P',e,?_,h2⟩;cases o<;>exact h1.1
theorem Rep.scr {g:G} {ns:List Int} {v:V} {P:Fp} (h:Rep K g H (.scr ns) v P):∃ a,v=.ref a/\Bq K H a (ns.map V.int):=by unfold Rep at h;obtain ⟨⟨a,e,h1⟩,_⟩:=h;exact ⟨a,e,h1.sq⟩
end
section
end
inductive Fl where
 | nx | ct | bk | rt (d:Dt)
noncomputable abbrev Es:=M->Option (Fl×M)
section
end
noncomputable abbrev Tg:=Dt->M->Option M
section
end
section
end
def items:Dt->Option (List Dt)
 | .tup ds=>bif cps ds then some ds else none
 | .lst _ ds=>bif cps ds then some ds else none
 | .scr ns=>some (ns.map .int)
 | _=>none
section
end
section
variable {X:Cx} {tg e a b:Expr} {f:Ev Dt} {oa ob:Om} {p pos:Pos}
noncomputable def small (i:Int):Bool:=-1000000000<=i && i<=1000000000
end
section
end
def Bk (K:W.Frag) (g:G) (H:Hp) (vs:List V):List Nat->List Dt->Fp->Prop
 | [],bs,P=>bs=[]/\∀ a,¬ P a
 | i::io,bs,P=>∃ b br v P1 P2,bs=b::br/\vs[i]?=some v/\Rep K g H b v P1/\Bk K g H vs io br P2/\Disj P1 P2/\∀ a,P a↔P1 a\/P2 a
section
end
section
end
section
end
section
end
section
end
section
variable {K:W.Frag} {g:G} {H:Hp}
noncomputable def big (i:Int):Bool:=decide (-(2 ^ 64) < i) && decide (i < 2 ^ 64)
theorem atI_map {α β:Type} {f:α->β} {xs:List α} {i:Int}:EK (xs.map f) i=(EK xs i).map f:=by
 unfold EK;rw [List.length_map];cases MS xs.length i with
 | none=>rfl
 | some j=>show (xs.map f)[j]?=_;rw [List.getElem?_map];rfl
def cutA {α:Type} (xs:List α) (lo hi:Option Int):List α:=(xs.drop (HT.sIx xs.length 0 lo)).take (HT.sIx xs.length xs.length hi - HT.sIx xs.length 0 lo)
theorem map_cut {α β:Type} (f:α->β) (xs:List α) (lo hi:Option Int):(cutA xs lo hi).map f=cutA (xs.map f) lo hi:=by
 unfold cutA;rw [List.map_take,List.map_drop,List.length_map]
end
section
end
end Q
namespace L3
open PySem PySem.Spec PyProof.Rows PySem.SeqAt L2
abbrev St:=L2.St
inductive D where
 | fl (v:V)
 | tup (ds:List D)
 | lst (ds:List D)
mutual
noncomputable def eqD:D->D->Bool
 | .fl a,.fl b=>eqV a b
 | .tup a,.tup b=>eqDs a b
 | .lst a,.lst b=>eqDs a b
 | _,_=>false
noncomputable def eqDs:List D->List D->Bool
 | [],[]=>true
 | x::xs,y::ys=>eqD x y && eqDs xs ys
 | _,_=>false
end
mutual
noncomputable def D.dep:D->Nat
 | .fl _=>0
 | .tup ds=>depL ds+1
 | .lst ds=>depL ds+1
noncomputable def depL:List D->Nat
 | []=>0
 | d::ds=>max d.dep (depL ds)
end
mutual
noncomputable def Is (K:W.Frag) (H:Hp):V->D->Prop
 | x,.fl v=>x=v/\Ee v=true
 | x,.tup ds=>∃ a xs,x=.ref a/\Ds K H a xs/\IsL K H xs ds
 | x,.lst ds=>∃ a xs,x=.ref a/\Bq K H a xs/\IsL K H xs ds
noncomputable def IsL (K:W.Frag) (H:Hp):List V->List D->Prop
 | [],[]=>True
 | x::xs,d::ds=>Is K H x d/\IsL K H xs ds
 | _,_=>False
end
theorem IsL.inv {K:W.Frag} {H:Hp} {x:V} {xs:List V} {es:List D} (h:IsL K H (x::xs) es):∃ d ds,es=d::ds/\Is K H x d/\IsL K H xs ds:=by
 cases es with
 | nil=>unfold IsL at h;exact h.elim
 | cons d ds=>unfold IsL at h;exact ⟨d,ds,rfl,h.1,h.2⟩
theorem IsL.length {K:W.Frag} {H:Hp}:∀ {xs:List V} {ds:List D},IsL K H xs ds->xs.length=ds.length
 | [],[],_=>rfl
 | [],_::_,h=>by unfold IsL at h;exact h.elim
 | _::_,[],h=>by unfold IsL at h;exact h.elim
 | x::xs,d::ds,h=>by unfold IsL at h;rw [List.length_cons,List.length_cons,IsL.length h.2]
theorem IsL.get {K:W.Frag} {H:Hp}:∀ {xs:List V} {ds:List D} {i:Nat} {d:D},IsL K H xs ds->ds[i]?=some d->∃ x,xs[i]?=some x/\Is K H x d
 | [],[],_,_,_,e=>by simp at e
 | [],_::_,_,_,h,_=>by unfold IsL at h;exact h.elim
 | _::_,[],_,_,_,e=>by simp at e
 | x::xs,d::ds,0,d',h,e=>by
  unfold IsL at h;have:d=d':=by simpa using e
  subst this;exact ⟨x,rfl,h.1⟩
 | x::xs,d::ds,i+1,_,h,e=>by
  unfold IsL at h;obtain ⟨y,e1,e2⟩:=IsL.get (i:=i) h.2 (by simpa using e);exact ⟨y,by simpa using e1,e2⟩
theorem NH {X:Cx} {pins:List (Addr×Obj)} {σ:St} {H:Hp} {s:Shared} {a:Addr} {xs ys:List V} (I:Inv X pins σ H s) (h:Ds X.K H a xs) (k:Bq X.K H a ys):False:=by
 obtain ⟨_,_,⟨o,e,c,_⟩,_⟩:=I.tuple h;obtain ⟨_,_,⟨o',n,e',c',_⟩,_⟩:=I.list k;rw [e] at e';cases e';rw [c] at c';injection c' with q
 exact absurd q (by decide)
mutual
theorem Is.inj {X:Cx} {pins:List (Addr×Obj)} {σ:St} {H:Hp} {s:Shared} (I:Inv X pins σ H s):∀ {d e:D} {x:V},Is X.K H x d->Is X.K H x e->d=e
 | .fl v,e,x,h,k=>by
  unfold Is at h;obtain ⟨rfl,hf⟩:=h;cases e with
  | fl u=>unfold Is at k;rw [k.1]
  | tup es=>unfold Is at k;obtain ⟨a,xs,rfl,_⟩:=k;cases hf
  | lst es=>unfold Is at k;obtain ⟨a,xs,rfl,_⟩:=k;cases hf
 | .tup ds,e,x,h,k=>by
  unfold Is at h;obtain ⟨a,xs,rfl,h1,h2⟩:=h;cases e with
  | fl u=>unfold Is at k;obtain ⟨k1,k2⟩:=k;rw [<- k1] at k2;cases k2
  | tup es =>
   unfold Is at k;obtain ⟨b,ys,e,k1,k2⟩:=k;cases e;rw [I.tuple_inj h1 k1] at h2;rw [IsL.inj I h2 k2]
  | lst es=>unfold Is at k;obtain ⟨b,ys,e,k1,k2⟩:=k;cases e;exact (NH I h1 k1).elim
 | .lst ds,e,x,h,k=>by
  unfold Is at h;obtain ⟨a,xs,rfl,h1,h2⟩:=h;cases e with
  | fl u=>unfold Is at k;obtain ⟨k1,k2⟩:=k;rw [<- k1] at k2;cases k2
  | lst es =>
   unfold Is at k;obtain ⟨b,ys,e,k1,k2⟩:=k;cases e;rw [I.list_inj h1 k1] at h2;rw [IsL.inj I h2 k2]
  | tup es=>unfold Is at k;obtain ⟨b,ys,e,k1,k2⟩:=k;cases e;exact (NH I k1 h1).elim
theorem IsL.inj {X:Cx} {pins:List (Addr×Obj)} {σ:St} {H:Hp} {s:Shared} (I:Inv X pins σ H s):∀ {ds es:List D} {xs:List V},IsL X.K H xs ds->IsL X.K H xs es->ds=es
 | [],es,[],h,k=>by
  cases es with
  | nil=>rfl
  | cons e es=>unfold IsL at k;exact k.elim
 | [],_,_::_,h,_=>by unfold IsL at h;exact h.elim
 | _::_,_,[],h,_=>by unfold IsL at h;exact h.elim
 | d::ds,es,x::xs,h,k=>by
  unfold IsL at h;obtain ⟨e,es',rfl,k1,k2⟩:=k.inv;rw [Is.inj I h.1 k1,IsL.inj I h.2 k2]
end
theorem eqV_refl {v:V} (h:Ee v=true):eqV v v=true:=by
 cases v<;>first | rfl | (simp [eqV];done) | cases h
mutual
theorem eqD_refl {K:W.Frag} {H:Hp}:∀ {d:D} {x:V},Is K H x d->eqD d d=true
 | .fl v,x,h=>by unfold Is at h;unfold eqD;exact eqV_refl h.2
 | .tup ds,x,h=>by unfold Is at h;obtain ⟨_,_,_,_,h2⟩:=h;unfold eqD;exact eqDs_refl h2
 | .lst ds,x,h=>by unfold Is at h;obtain ⟨_,_,_,_,h2⟩:=h;unfold eqD;exact eqDs_refl h2
theorem eqDs_refl {K:W.Frag} {H:Hp}:∀ {ds:List D} {xs:List V},IsL K H xs ds->eqDs ds ds=true
 | [],_,_=>by unfold eqDs;rfl
 | _::_,[],h=>by unfold IsL at h;exact h.elim
 | d::ds,x::xs,h=>by
  unfold IsL at h;unfold eqDs;rw [eqD_refl h.1,eqDs_refl h.2];rfl
end
theorem Bd:∀ (xs ys:List D) (e:Nat->Bool),(∀ i x y,xs[i]?=some x->ys[i]?=some y->e i=eqD x y)->((List.range (min xs.length ys.length)).all e && xs.length == ys.length)=eqDs xs ys
 | [],[],_,_=>by unfold eqDs;rfl
 | [],_::_,_,_=>by unfold eqDs;simp
 | _::_,[],_,_=>by unfold eqDs;simp
 | x::xs,y::ys,e,h=>by
  have ih:=Bd xs ys (fun i=>e (i+1)) fun i a b h1 h2=>h (i+1) a b (by simpa using h1) (by simpa using h2)
  have h0:=h 0 x y rfl rfl;unfold eqDs;rw [<- ih,<- h0,List.length_cons,List.length_cons,Nat.succ_min_succ,List.range_succ_eq_map,List.all_cons,List.all_map];have:((xs.length+1 == ys.length+1):Bool)=(xs.length == ys.length):=by simp
  rw [this,Bool.and_assoc];rfl
theorem Eg:∀ {ds:List D} {i:Nat} {d:D},ds[i]?=some d->d.dep<=depL ds
 | [],_,_,e=>by simp at e
 | d::ds,0,d',e=>by
  have:d=d':=by simpa using e
  subst this;show d.dep<=depL (d::ds);unfold depL;exact Nat.le_max_left _ _
 | d::ds,i+1,x,e=>by
  have:=Eg (ds:=ds) (i:=i) (d:=x) (by simpa using e);unfold depL;exact Nat.le_trans this (Nat.le_max_right _ _)
section
variable {X:Cx} {pins:List (Addr×Obj)} {σ:St} {H:Hp} {s:Shared}
def eAt (ds es:List D) (i:Nat):Bool:=match ds[i]?,es[i]? with | some a,some b=>eqD a b | _,_=>true
theorem eAt_of {ds es:List D} {i:Nat} {a b:D} (h1:ds[i]?=some a) (h2:es[i]?=some b):eAt ds es i=eqD a b:=by unfold eAt;rw [h1,h2]
theorem Af {x:V} (h:Ee x=true):x=.non\/(∃ b,x=.bl b)\/(∃ i,x=.int i)\/∃ z,x=.str z:=by
 cases x with
 | non=>exact .inl rfl
 | bl b=>exact .inr (.inl ⟨b,rfl⟩)
 | int i=>exact .inr (.inr (.inl ⟨i,rfl⟩))
 | str z=>exact .inr (.inr (.inr ⟨z,rfl⟩))
 | _=>cases h
theorem Si (I:Inv X pins σ H s):∀ (n:Nat) (A:Around) (d e:D) (x y:V) (u v:Value),d.dep<=n->A.units+n < cLine->RelV x u->RelV y v->Is X.K H x d->Is X.K H y e->EqAt A s u v (eqD d e):=by
 intro n
 induction n with
 | zero =>
  intro A d e x y u v hd hu rx ry hx hy;cases d with
  | fl a =>
   unfold Is at hx;obtain ⟨rfl,fx⟩:=hx;cases e with
   | fl b=>unfold Is at hy;obtain ⟨rfl,fy⟩:=hy;unfold eqD;exact aU rx ry fx fy
   | tup es =>
    unfold Is at hy;obtain ⟨b,ys,rfl,h1,h2⟩:=hy;cases ry;obtain ⟨its,r,ht,_⟩:=I.tuple h1;unfold eqD;rcases Af fx with rfl | ⟨c,rfl⟩ | ⟨c,rfl⟩ | ⟨c,rfl⟩
    ·cases rx;exact EqAt.none_tuple ht hu
    ·cases rx;exact EqAt.bool_tuple c ht hu
    ·obtain ⟨t,rfl⟩:=rx;exact EqAt.int_tuple c t ht hu
    ·obtain ⟨t,rfl⟩:=rx;exact EqAt.str_tuple c t ht hu
   | lst es =>
    unfold Is at hy;obtain ⟨b,ys,rfl,h1,h2⟩:=hy;cases ry;obtain ⟨its,r,ht,_⟩:=I.list h1;unfold eqD;rcases Af fx with rfl | ⟨c,rfl⟩ | ⟨c,rfl⟩ | ⟨c,rfl⟩
    ·cases rx;exact EqAt.none_list ht.isList hu
    ·cases rx;exact EqAt.bool_list c ht.isList hu
    ·obtain ⟨t,rfl⟩:=rx;exact EqAt.int_list c t ht.isList hu
    ·obtain ⟨t,rfl⟩:=rx;exact EqAt.str_list c t ht.isList hu
  | tup ds=>unfold D.dep at hd;omega
  | lst ds=>unfold D.dep at hd;omega
 | succ n ih =>
  intro A d e x y u v hd hu rx ry hx hy;have hu0:A.units < cLine:=by omega
  cases d with
  | fl a=>exact ih A (.fl a) e x y u v (by unfold D.dep;omega) (by omega) rx ry hx hy
  | tup ds =>
   unfold D.dep at hd;have hx0:=hx;unfold Is at hx;obtain ⟨a,xs,rfl,h1,h2⟩:=hx;cases rx;obtain ⟨its,r,ht,_⟩:=I.tuple h1;cases e with
   | fl b =>
    unfold Is at hy;obtain ⟨rfl,fy⟩:=hy;unfold eqD;rcases Af fy with rfl | ⟨c,rfl⟩ | ⟨c,rfl⟩ | ⟨c,rfl⟩
    ·cases ry;exact EqAt.tuple_none ht hu0
    ·cases ry;exact EqAt.tuple_bool c ht hu0
    ·obtain ⟨t,rfl⟩:=ry;exact EqAt.tuple_int c t ht hu0
    ·obtain ⟨t,rfl⟩:=ry;exact EqAt.tuple_str c t ht hu0
   | tup es =>
    have hy0:=hy;unfold Is at hy;obtain ⟨b,ys,rfl,k1,k2⟩:=hy;cases ry;obtain ⟨its2,r2,ht2,_⟩:=I.tuple k1
    by_cases hab:a=b
    ·subst hab;rw [Is.inj I hx0 hy0,eqD_refl hy0];exact EqAt.same _
    ·refine EqAt.of_refs hab ?_;have q:=RcAt.tuples (e:=eAt ds es) ht ht2 hu0 (fun j j1 j2=>?_)
     ·have e1:=Bd ds es (eAt ds es) fun i a b q1 q2=>eAt_of q1 q2
      rw [List.size_toArray,List.size_toArray,<- r.length,<- r2.length,h2.length,k2.length,e1] at q;unfold eqD;exact q
     ·have j1':j < its.length:=by simpa using j1
      have j2':j < its2.length:=by simpa using j2
      have l1:j < ds.length:=by rw [<- h2.length,r.length];exact j1'
      have l2:j < es.length:=by rw [<- k2.length,r2.length];exact j2'
      obtain ⟨x',ex,px⟩:=h2.get (i:=j) (List.getElem?_eq_getElem l1);obtain ⟨y',ey,py⟩:=k2.get (i:=j) (List.getElem?_eq_getElem l2);obtain ⟨u',eu,ru⟩:=r.get ex;obtain ⟨v',ev,rv⟩:=r2.get ey;rw [eAt_of (List.getElem?_eq_getElem l1) (List.getElem?_eq_getElem l2)];have z1:its.toArray[j]=u':=by rw [List.getElem?_eq_getElem j1'] at eu;simpa using Option.some.inj eu
      have z2:its2.toArray[j]=v':=by rw [List.getElem?_eq_getElem j2'] at ev;simpa using Option.some.inj ev
      rw [z1,z2];exact ih A.in1 _ _ x' y' u' v' (Nat.le_trans (Eg (List.getElem?_eq_getElem l1)) (by omega)) (by show A.units+1+n < cLine;omega) ru rv px py
   | lst es =>
    unfold Is at hy;obtain ⟨b,ys,rfl,k1,k2⟩:=hy;cases ry;obtain ⟨its2,r2,ht2,_⟩:=I.list k1;unfold eqD;exact EqAt.tuple_list ht ht2.isList hu0
  | lst ds =>
   unfold D.dep at hd;have hx0:=hx;unfold Is at hx;obtain ⟨a,xs,rfl,h1,h2⟩:=hx;cases rx;obtain ⟨its,r,ht,_⟩:=I.list h1;cases e with
   | fl b =>
    unfold Is at hy;obtain ⟨rfl,fy⟩:=hy;unfold eqD;rcases Af fy with rfl | ⟨c,rfl⟩ | ⟨c,rfl⟩ | ⟨c,rfl⟩
    ·cases ry;exact EqAt.list_none ht.isList hu0
    ·cases ry;exact EqAt.list_bool c ht.isList hu0
    ·obtain ⟨t,rfl⟩:=ry;exact EqAt.list_int c t ht.isList hu0
    ·obtain ⟨t,rfl⟩:=ry;exact EqAt.list_str c t ht.isList hu0
   | tup es =>
    unfold Is at hy;obtain ⟨b,ys,rfl,k1,k2⟩:=hy;cases ry;obtain ⟨its2,r2,ht2,_⟩:=I.tuple k1;unfold eqD;exact EqAt.list_tuple ht.isList ht2 hu0
   | lst es =>
    have hy0:=hy;unfold Is at hy;obtain ⟨b,ys,rfl,k1,k2⟩:=hy;cases ry;obtain ⟨its2,r2,ht2,_⟩:=I.list k1
    by_cases hab:a=b
    ·subst hab;rw [Is.inj I hx0 hy0,eqD_refl hy0];exact EqAt.same _
    ·refine EqAt.of_refs hab ?_
     by_cases hsz:ds.length=es.length
     ·have e1:=Bd ds es (eAt ds es) fun i a b q1 q2=>eAt_of q1 q2
      rw [hsz,Nat.min_self,beq_self_eq_true,Bool.and_true] at e1;have q:=RcAt.lists (e:=eAt ds es) ht.isList ht2.isList (by rw [List.size_toArray,List.size_toArray,<- r.length,<- r2.length,h2.length,k2.length];exact hsz) hu0 (fun j j1 j2=>?_)
      ·rw [List.size_toArray,<- r.length,h2.length,hsz,e1] at q;unfold eqD;exact q
      ·have j1':j < its.length:=by simpa using j1
       have j2':j < its2.length:=by simpa using j2
       have l1:j < ds.length:=by rw [<- h2.length,r.length];exact j1'
       have l2:j < es.length:=by rw [<- k2.length,r2.length];exact j2'
       obtain ⟨x',ex,px⟩:=h2.get (i:=j) (List.getElem?_eq_getElem l1);obtain ⟨y',ey,py⟩:=k2.get (i:=j) (List.getElem?_eq_getElem l2);obtain ⟨u',eu,ru⟩:=r.get ex;obtain ⟨v',ev,rv⟩:=r2.get ey;rw [eAt_of (List.getElem?_eq_getElem l1) (List.getElem?_eq_getElem l2)];have z1:its.toArray[j]=u':=by rw [List.getElem?_eq_getElem j1'] at eu;simpa using Option.some.inj eu
       have z2:its2.toArray[j]=v':=by rw [List.getElem?_eq_getElem j2'] at ev;simpa using Option.some.inj ev
       rw [z1,z2];exact ih A.in1 _ _ x' y' u' v' (Nat.le_trans (Eg (List.getElem?_eq_getElem l1)) (by omega)) (by show A.units+1+n < cLine;omega) ru rv px py
     ·have q:=RcAt.lists_lengths (A:=A) ht.isList ht2.isList (by rw [List.size_toArray,List.size_toArray,<- r.length,<- r2.length,h2.length,k2.length];simpa using hsz) hu0;have e1:=Bd ds es (eAt ds es) fun i a b q1 q2=>eAt_of q1 q2
      have:(ds.length == es.length)=false:=by simpa using hsz
      rw [this,Bool.and_false] at e1;unfold eqD;rw [<- e1];exact q
end
noncomputable def D.seq:D->Bool
 | .fl _=>false
 | _=>true
section
variable {X:Cx} {pins:List (Addr×Obj)} {σ:St} {H:Hp} {s:Shared}
theorem Ky (I:Inv X pins σ H s) {n:Nat} {A:Around} {xs ys:List V} {ds es:List D} {its its2:List Value} (hd:depL ds<=n) (hu:A.units+1+n < cLine) (r:AD xs its) (r2:AD ys its2) (h2:IsL X.K H xs ds) (k2:IsL X.K H ys es) :
    ∀ j (h1:j < its.toArray.size) (h2:j < its2.toArray.size),EqAt A.in1 s its.toArray[j] its2.toArray[j] (eAt ds es j):=fun j j1 j2=>by
  have j1':j < its.length:=by simpa using j1
  have j2':j < its2.length:=by simpa using j2
  have l1:j < ds.length:=by rw [<- h2.length,r.length];exact j1'
  have l2:j < es.length:=by rw [<- k2.length,r2.length];exact j2'
  obtain ⟨x',ex,px⟩:=h2.get (i:=j) (List.getElem?_eq_getElem l1);obtain ⟨y',ey,py⟩:=k2.get (i:=j) (List.getElem?_eq_getElem l2);obtain ⟨u',eu,ru⟩:=r.get ex;obtain ⟨v',ev,rv⟩:=r2.get ey;rw [eAt_of (List.getElem?_eq_getElem l1) (List.getElem?_eq_getElem l2)];have z1:its.toArray[j]=u':=by rw [List.getElem?_eq_getElem j1'] at eu;simpa using Option.some.inj eu
  have z2:its2.toArray[j]=v':=by rw [List.getElem?_eq_getElem j2'] at ev;simpa using Option.some.inj ev
  rw [z1,z2];exact Si I n A.in1 _ _ x' y' u' v' (Nat.le_trans (Eg (List.getElem?_eq_getElem l1)) hd) (by show A.units+1+n < cLine;exact hu) ru rv px py
theorem JC (I:Inv X pins σ H s) {A:Around} {d e:D} {x y:V} {u v:Value} (sd:d.seq=true) (se:e.seq=true) (hu:A.units+d.dep+1 < cLine) (rx:RelV x u) (ry:RelV y v) (hx:Is X.K H x d) (hy:Is X.K H y e):RcAt A s u v (eqD d e)/\RcNeAt A s u v (!eqD d e):=by
 have hu0:A.units < cLine:=by omega
 cases d with
 | fl a=>cases sd
 | tup ds =>
  unfold D.dep at hu;unfold Is at hx;obtain ⟨a,xs,rfl,h1,h2⟩:=hx;cases rx;obtain ⟨its,r,ht,_⟩:=I.tuple h1;cases e with
  | fl b=>cases se
  | tup es =>
   unfold Is at hy;obtain ⟨b,ys,rfl,k1,k2⟩:=hy;cases ry;obtain ⟨its2,r2,ht2,_⟩:=I.tuple k1;have e1:=Bd ds es (eAt ds es) fun i a b q1 q2=>eAt_of q1 q2
   have it:=Ky I (A:=A) (n:=depL ds) (Nat.le_refl _) (by omega) r r2 h2 k2;have q:=RcAt.tuples (e:=eAt ds es) ht ht2 hu0 it;have q':=RcNeAt.tuples (e:=eAt ds es) ht ht2 hu0 it;rw [List.size_toArray,List.size_toArray,<- r.length,<- r2.length,h2.length,k2.length,e1] at q q';unfold eqD;exact ⟨q,q'⟩
  | lst es =>
   unfold Is at hy;obtain ⟨b,ys,rfl,k1,k2⟩:=hy;cases ry;obtain ⟨its2,r2,ht2,_⟩:=I.list k1;unfold eqD;exact ⟨RcAt.tuple_list ht ht2.isList hu0,RcNeAt.tuple_list ht ht2.isList hu0⟩
 | lst ds =>
  unfold D.dep at hu;unfold Is at hx;obtain ⟨a,xs,rfl,h1,h2⟩:=hx;cases rx;obtain ⟨its,r,ht,_⟩:=I.list h1;cases e with
  | fl b=>cases se
  | tup es =>
   unfold Is at hy;obtain ⟨b,ys,rfl,k1,k2⟩:=hy;cases ry;obtain ⟨its2,r2,ht2,_⟩:=I.tuple k1;unfold eqD;exact ⟨RcAt.list_tuple ht.isList ht2 hu0,RcNeAt.list_tuple ht.isList ht2 hu0⟩
  | lst es =>
   unfold Is at hy;obtain ⟨b,ys,rfl,k1,k2⟩:=hy;cases ry;obtain ⟨its2,r2,ht2,_⟩:=I.list k1;have e1:=Bd ds es (eAt ds es) fun i a b q1 q2=>eAt_of q1 q2
   unfold eqD
   by_cases hsz:ds.length=es.length
   ·rw [hsz,Nat.min_self,beq_self_eq_true,Bool.and_true] at e1;have it:=Ky I (A:=A) (n:=depL ds) (Nat.le_refl _) (by omega) r r2 h2 k2;have sz:its.toArray.size=its2.toArray.size:=by rw [List.size_toArray,List.size_toArray,<- r.length,<- r2.length,h2.length,k2.length];exact hsz
    have q:=RcAt.lists (e:=eAt ds es) ht.isList ht2.isList sz hu0 it;have q':=RcNeAt.lists (e:=eAt ds es) ht.isList ht2.isList sz hu0 it;rw [List.size_toArray,<- r.length,h2.length,hsz,e1] at q q';exact ⟨q,q'⟩
   ·have sz:(its.toArray.size != its2.toArray.size)=true:=by rw [List.size_toArray,List.size_toArray,<- r.length,<- r2.length,h2.length,k2.length];simpa using hsz
    have:(ds.length == es.length)=false:=by simpa using hsz
    rw [this,Bool.and_false] at e1;rw [<- e1];exact ⟨RcAt.lists_lengths ht.isList ht2.isList sz hu0,RcNeAt.lists_lengths ht.isList ht2.isList sz hu0⟩
end
section
variable {X:Cx} {pins:List (Addr×Obj)} {σ:L2.St} {H:Hp} {s:Shared}
theorem Uq {A:Around} {x y:V} {u v:Value} (rx:RelV x u) (ry:RelV y v) (fx:Ee x=true) (fy:Ee y=true):RcAt A s u v (eqV x y)/\RcNeAt A s u v (!eqV x y):=by
 rcases Af fx with rfl | ⟨c,rfl⟩ | ⟨c,rfl⟩ | ⟨c,rfl⟩<;>rcases Af fy with rfl | ⟨d,rfl⟩ | ⟨d,rfl⟩ | ⟨d,rfl⟩
 ·cases rx;cases ry;exact ⟨RcAt.none_none , RcNeAt.none_none ⟩
 ·cases rx;cases ry;exact ⟨RcAt.none_bool d,RcNeAt.none_bool d⟩
 ·cases rx;obtain ⟨dt,rfl⟩:=ry;exact ⟨RcAt.none_int d dt,RcNeAt.none_int d dt⟩
 ·cases rx;obtain ⟨dt,rfl⟩:=ry;exact ⟨RcAt.none_str d dt,RcNeAt.none_str d dt⟩
 ·cases rx;cases ry;exact ⟨RcAt.bool_none c,RcNeAt.bool_none c⟩
 ·cases rx;cases ry;exact ⟨RcAt.bool_bool c d,RcNeAt.bool_bool c d⟩
 ·cases rx;obtain ⟨dt,rfl⟩:=ry;exact ⟨RcAt.bool_int c d dt,RcNeAt.bool_int c d dt⟩
 ·cases rx;obtain ⟨dt,rfl⟩:=ry;exact ⟨RcAt.bool_str c d dt,RcNeAt.bool_str c d dt⟩
 ·obtain ⟨ct,rfl⟩:=rx;cases ry;exact ⟨RcAt.int_none c ct,RcNeAt.int_none c ct⟩
 ·obtain ⟨ct,rfl⟩:=rx;cases ry;exact ⟨RcAt.int_bool c ct d,RcNeAt.int_bool c ct d⟩
 ·obtain ⟨ct,rfl⟩:=rx;obtain ⟨dt,rfl⟩:=ry;exact ⟨RcAt.int_int c ct d dt,RcNeAt.int_int c ct d dt⟩
 ·obtain ⟨ct,rfl⟩:=rx;obtain ⟨dt,rfl⟩:=ry;exact ⟨RcAt.int_str c ct d dt,RcNeAt.int_str c ct d dt⟩
 ·obtain ⟨ct,rfl⟩:=rx;cases ry;exact ⟨RcAt.str_none c ct,RcNeAt.str_none c ct⟩
 ·obtain ⟨ct,rfl⟩:=rx;cases ry;exact ⟨RcAt.str_bool c ct d,RcNeAt.str_bool c ct d⟩
 ·obtain ⟨ct,rfl⟩:=rx;obtain ⟨dt,rfl⟩:=ry;exact ⟨RcAt.str_int c ct d dt,RcNeAt.str_int c ct d dt⟩
 ·obtain ⟨ct,rfl⟩:=rx;obtain ⟨dt,rfl⟩:=ry;exact ⟨RcAt.str_str c ct d dt,RcNeAt.str_str c ct d dt⟩
theorem KZ (I:Inv X pins σ H s) {A:Around} {d e:D} {x y:V} {u v:Value} (hu:A.units+d.dep+1 < cLine) (rx:RelV x u) (ry:RelV y v) (hx:Is X.K H x d) (hy:Is X.K H y e):RcAt A s u v (eqD d e)/\RcNeAt A s u v (!eqD d e):=by
 have hu0:A.units < cLine:=by omega
 cases d with
 | fl a =>
  unfold Is at hx;obtain ⟨rfl,fx⟩:=hx;cases e with
  | fl b =>
   unfold Is at hy;obtain ⟨rfl,fy⟩:=hy;unfold eqD;exact Uq rx ry fx fy
  | tup es =>
   unfold Is at hy;obtain ⟨b,ys,rfl,k1,k2⟩:=hy;cases ry;obtain ⟨its2,r2,ht2,_⟩:=I.tuple k1;unfold eqD;rcases Af fx with rfl | ⟨c,rfl⟩ | ⟨c,rfl⟩ | ⟨c,rfl⟩
   ·cases rx;exact ⟨RcAt.none_tuple ht2 hu0,RcNeAt.none_tuple ht2 hu0⟩
   ·cases rx;exact ⟨RcAt.bool_tuple c ht2 hu0,RcNeAt.bool_tuple c ht2 hu0⟩
   ·obtain ⟨t,rfl⟩:=rx;exact ⟨RcAt.int_tuple c t ht2 hu0,RcNeAt.int_tuple c t ht2 hu0⟩
   ·obtain ⟨t,rfl⟩:=rx;exact ⟨RcAt.str_tuple c t ht2 hu0,RcNeAt.str_tuple c t ht2 hu0⟩
  | lst es =>
   unfold Is at hy;obtain ⟨b,ys,rfl,k1,k2⟩:=hy;cases ry;obtain ⟨its2,r2,ht2,_⟩:=I.list k1;unfold eqD;rcases Af fx with rfl | ⟨c,rfl⟩ | ⟨c,rfl⟩ | ⟨c,rfl⟩
   ·cases rx;exact ⟨RcAt.none_list ht2.isList hu0,RcNeAt.none_list ht2.isList hu0⟩
   ·cases rx;exact ⟨RcAt.bool_list c ht2.isList hu0,RcNeAt.bool_list c ht2.isList hu0⟩
   ·obtain ⟨t,rfl⟩:=rx;exact ⟨RcAt.int_list c t ht2.isList hu0,RcNeAt.int_list c t ht2.isList hu0⟩
   ·obtain ⟨t,rfl⟩:=rx;exact ⟨RcAt.str_list c t ht2.isList hu0,RcNeAt.str_list c t ht2.isList hu0⟩
 | tup ds =>
  cases e with
  | fl b =>
   unfold Is at hx hy;obtain ⟨b',ys,rfl,k1,k2⟩:=hx;obtain ⟨rfl,fy⟩:=hy;cases rx;obtain ⟨its2,r2,ht2,_⟩:=I.tuple k1;unfold eqD;rcases Af fy with rfl | ⟨c,rfl⟩ | ⟨c,rfl⟩ | ⟨c,rfl⟩
   ·cases ry;exact ⟨RcAt.tuple_none ht2 hu0,RcNeAt.tuple_none ht2 hu0⟩
   ·cases ry;exact ⟨RcAt.tuple_bool c ht2 hu0,RcNeAt.tuple_bool c ht2 hu0⟩
   ·obtain ⟨t,rfl⟩:=ry;exact ⟨RcAt.tuple_int c t ht2 hu0,RcNeAt.tuple_int c t ht2 hu0⟩
   ·obtain ⟨t,rfl⟩:=ry;exact ⟨RcAt.tuple_str c t ht2 hu0,RcNeAt.tuple_str c t ht2 hu0⟩
  | tup es=>exact JC I rfl rfl hu rx ry hx hy
  | lst es=>exact JC I rfl rfl hu rx ry hx hy
 | lst ds =>
  cases e with
  | fl b =>
   unfold Is at hx hy;obtain ⟨b',ys,rfl,k1,k2⟩:=hx;obtain ⟨rfl,fy⟩:=hy;cases rx;obtain ⟨its2,r2,ht2,_⟩:=I.list k1;unfold eqD;rcases Af fy with rfl | ⟨c,rfl⟩ | ⟨c,rfl⟩ | ⟨c,rfl⟩
   ·cases ry;exact ⟨RcAt.list_none ht2.isList hu0,RcNeAt.list_none ht2.isList hu0⟩
   ·cases ry;exact ⟨RcAt.list_bool c ht2.isList hu0,RcNeAt.list_bool c ht2.isList hu0⟩
   ·obtain ⟨t,rfl⟩:=ry;exact ⟨RcAt.list_int c t ht2.isList hu0,RcNeAt.list_int c t ht2.isList hu0⟩
   ·obtain ⟨t,rfl⟩:=ry;exact ⟨RcAt.list_str c t ht2.isList hu0,RcNeAt.list_str c t ht2.isList hu0⟩
  | tup es=>exact JC I rfl rfl hu rx ry hx hy
  | lst es=>exact JC I rfl rfl hu rx ry hx hy
def rEqA (K:W.Frag) (neg:Bool):R2:=fun x y H Q=>∃ d e,d.dep<=150/\Is K H x d/\Is K H y e/\Q (.bl (if neg then !eqD d e else eqD d e)) H
theorem op_eqA {j:Nat} (hr:Room j X.A):CN X (compareOp .Eq) (rEqA X.K false):=by
 intro pins s σ H x y v u Q I rx ry h;obtain ⟨d,e,hd,hx,hy,q⟩:=h;have:=hr.un;exact (KZ I (by omega) rx ry hx hy).1 X.prog X.w _ _ ⟨.bl _,H,I,rfl,q⟩
theorem op_neA {j:Nat} (hr:Room j X.A):CN X (compareOp .NotEq) (rEqA X.K true):=by
 intro pins s σ H x y v u Q I rx ry h;obtain ⟨d,e,hd,hx,hy,q⟩:=h;have:=hr.un;exact (KZ I (by omega) rx ry hx hy).2 X.prog X.w _ _ ⟨.bl _,H,I,rfl,q⟩
open Classical in
def eqW (its:List Value) (ds:List D) (e:D) (u:Value):Bool:=decide (∃ (i:Nat) (d:D),its[i]?=some u/\ds[i]?=some d/\eqD d e=true)
open Classical in
theorem eqW_at (I:Inv X pins σ H s) {xs:List V} {its:List Value} {ds:List D} (r:AD xs its) (h:IsL X.K H xs ds) {e:D} {i:Nat} {u:Value} {d:D} (hu:its[i]?=some u) (hd:ds[i]?=some d):eqW its ds e u=eqD d e:=by
 have key:∀ (j:Nat) (d':D),its[j]?=some u->ds[j]?=some d'->d'=d:=fun j d' h1 h2=>by
  obtain ⟨x,ex,px⟩:=h.get hd;obtain ⟨y,ey,py⟩:=h.get h2;obtain ⟨u1,e1,r1⟩:=r.get ex;obtain ⟨u2,e2,r2⟩:=r.get ey;rw [hu] at e1;cases e1;rw [h1] at e2;cases e2;rw [r2.inj r1] at py;exact Is.inj I py px
 unfold eqW;cases q:eqD d e with
 | true=>exact decide_eq_true ⟨i,d,hu,hd,q⟩
 | false =>
  refine decide_eq_false ?_;rintro ⟨j,d',h1,h2,h3⟩;rw [key j d' h1 h2,q] at h3;cases h3
theorem GA (I:Inv X pins σ H s) {xs:List V} {its:List Value} {ds:List D} (r:AD xs its) (h:IsL X.K H xs ds) (e:D):its.any (eqW its ds e)=ds.any fun d=>eqD d e:=by
 rw [Bool.eq_iff_iff,List.any_eq_true,List.any_eq_true];have hl:its.length=ds.length:=by rw [<- r.length,h.length]
 constructor
 ·rintro ⟨u,hu,q⟩;obtain ⟨i,hi,rfl⟩:=List.getElem_of_mem hu;have hd:ds[i]?=some ds[i]:=List.getElem?_eq_getElem (by omega);rw [eqW_at I r h (List.getElem?_eq_getElem hi) hd] at q;exact ⟨_,List.mem_of_getElem? hd,q⟩
 ·rintro ⟨d,hd,q⟩;obtain ⟨i,hi,rfl⟩:=List.getElem_of_mem hd;have hu:its[i]?=some its[i]:=List.getElem?_eq_getElem (by omega);exact ⟨_,List.mem_of_getElem? hu,by rw [eqW_at I r h hu (List.getElem?_eq_getElem hi)];exact q⟩
theorem all_eqW (I:Inv X pins σ H s) {A:Around} {xs:List V} {its:List Value} {ds:List D} (r:AD xs its) (h:IsL X.K H xs ds) {e:D} {y:V} {v:Value} (ry:RelV y v) (hy:Is X.K H y e) (hd:depL ds<=150) (hu:A.units+150 < cLine):∀ w∈its,EqAt A s w v (eqW its ds e w):=fun w hw=>by
 obtain ⟨i,hi,rfl⟩:=List.getElem_of_mem hw;have hl:its.length=ds.length:=by rw [<- r.length,h.length]
 have hdi:ds[i]?=some ds[i]:=List.getElem?_eq_getElem (by omega);rw [eqW_at I r h (List.getElem?_eq_getElem hi) hdi];obtain ⟨x,ex,px⟩:=h.get hdi;obtain ⟨u1,e1,r1⟩:=r.get ex;rw [List.getElem?_eq_getElem hi] at e1;cases e1;exact Si I 150 A _ _ x y _ _ (Nat.le_trans (Eg hdi) hd) hu r1 ry px hy
def rInA (K:W.Frag) (neg:Bool):R2:=fun x y H Q=>∃ p ys ds e,y=.ref p/\(Bq K H p ys\/Ds K H p ys)/\IsL K H ys ds/\Is K H x e/\depL ds<=150/\Q (.bl (if neg then !(ds.any fun d=>eqD d e) else ds.any fun d=>eqD d e)) H
theorem op_inA {j:Nat} (hr:Room j X.A):CN X (compareOp .In) (rInA X.K false):=by
 intro pins s σ H x y v u Q I rx ry h;obtain ⟨p,ys,ds,e,rfl,hq,hl,hx,hd,q⟩:=h;have hu:X.A.units+1+150 < cLine:=by have:=hr.un;omega
 cases ry;rcases hq with hq | hq
 ·obtain ⟨its,r,pl,hz⟩:=I.list hq;refine SeqAt.in_listAt (eqW its ds e) pl.isList (fun w hw=>all_eqW I r hl rx hx hd hu w (by simpa using hw)) ⟨.bl _,H,I,rfl,?_⟩;rw [show its.toArray.any (eqW its ds e)=its.any (eqW its ds e) by simp,GA I r hl];exact q
 ·obtain ⟨its,r,pl,hz⟩:=I.tuple hq;refine SeqAt.in_tupleAt (eqW its ds e) pl (fun w hw=>all_eqW I r hl rx hx hd hu w (by simpa using hw)) ⟨.bl _,H,I,rfl,?_⟩;rw [show its.toArray.any (eqW its ds e)=its.any (eqW its ds e) by simp,GA I r hl];exact q
theorem op_notInA {j:Nat} (hr:Room j X.A):CN X (compareOp .NotIn) (rInA X.K true):=by
 intro pins s σ H x y v u Q I rx ry h;obtain ⟨p,ys,ds,e,rfl,hq,hl,hx,hd,q⟩:=h;have hu:X.A.units+1+150 < cLine:=by have:=hr.un;omega
 cases ry;rcases hq with hq | hq
 ·obtain ⟨its,r,pl,hz⟩:=I.list hq;refine SeqAt.notIn_listAt (eqW its ds e) pl.isList (fun w hw=>all_eqW I r hl rx hx hd hu w (by simpa using hw)) ⟨.bl _,H,I,rfl,?_⟩;rw [show its.toArray.any (eqW its ds e)=its.any (eqW its ds e) by simp,GA I r hl];exact q
 ·obtain ⟨its,r,pl,hz⟩:=I.tuple hq;refine SeqAt.notIn_tupleAt (eqW its ds e) pl (fun w hw=>all_eqW I r hl rx hx hd hu w (by simpa using hw)) ⟨.bl _,H,I,rfl,?_⟩;rw [show its.toArray.any (eqW its ds e)=its.any (eqW its ds e) by simp,GA I r hl];exact q
end
end L3
namespace Q
open PySem L2
mutual
noncomputable def toD:Dt->L3.D
 | .non=>.fl .non
 | .bl b=>.fl (.bl b)
 | .int i=>.fl (.int i)
 | .str l=>.fl (.str (tx l))
 | .tup xs=>.tup (toDs xs)
 | .lst _ xs=>.lst (toDs xs)
 | _=>.fl .non
noncomputable def toDs:List Dt->List L3.D
 | []=>[]
 | d::ds=>toD d::toDs ds
end
mutual
noncomputable def Dt.cmp:Dt->Bool
 | .non=>true
 | .bl _=>true
 | .int _=>true
 | .str _=>true
 | .tup xs=>cmps xs
 | .lst _ xs=>cmps xs
 | _=>false
noncomputable def cmps:List Dt->Bool
 | []=>true
 | d::ds=>d.cmp && cmps ds
end
mutual
noncomputable def Dt.dep:Dt->Nat
 | .tup xs=>PK xs+1
 | .lst _ xs=>PK xs+1
 | _=>0
noncomputable def PK:List Dt->Nat
 | []=>0
 | d::ds=>max d.dep (PK ds)
end
mutual
noncomputable def eqT:Dt->Dt->Bool
 | .non,.non=>true
 | .bl a,.bl b=>a == b
 | .bl a,.int b=>(if a then 1 else 0) == b
 | .int a,.bl b=>a == (if b then 1 else 0)
 | .int a,.int b=>a == b
 | .str a,.str b=>a == b
 | .tup xs,.tup ys=>LJ xs ys
 | .lst _ xs,.lst _ ys=>LJ xs ys
 | _,_=>false
noncomputable def LJ:List Dt->List Dt->Bool
 | [],[]=>true
 | x::xs,y::ys=>eqT x y && LJ xs ys
 | _,_=>false
end
mutual
theorem Xt:∀ (d e:Dt),d.cmp=true->e.cmp=true->L3.eqD (toD d) (toD e)=eqT d e
 | .non,e,h,k=>by cases e<;>first | (unfold toD L3.eqD eqT;rfl) | (unfold Dt.cmp at k;cases k)
 | .bl b,e,h,k=>by cases e<;>first | (unfold toD L3.eqD eqT;rfl) | (unfold Dt.cmp at k;cases k)
 | .int i,e,h,k=>by cases e<;>first | (unfold toD L3.eqD eqT;rfl) | (unfold Dt.cmp at k;cases k)
 | .str l,e,h,k=>by
  cases e with
  | str m=>unfold toD L3.eqD eqT;rw [eqV_str];exact (Bool.beq_eq_decide_eq l m).symm
  | _=>first | (unfold toD L3.eqD eqT;rfl) | (unfold Dt.cmp at k;cases k)
 | .tup xs,e,h,k=>by
  cases e with
  | tup ys=>unfold toD L3.eqD eqT;unfold Dt.cmp at h k;exact Mh xs ys h k
  | _=>first | (unfold toD L3.eqD eqT;rfl) | (unfold Dt.cmp at k;cases k)
 | .lst o xs,e,h,k=>by
  cases e with
  | lst o' ys=>unfold toD L3.eqD eqT;unfold Dt.cmp at h k;exact Mh xs ys h k
  | _=>first | (unfold toD L3.eqD eqT;rfl) | (unfold Dt.cmp at k;cases k)
 | .dic o xs,e,h,k=>by unfold Dt.cmp at h;cases h
 | .ref o,e,h,k=>by unfold Dt.cmp at h;cases h
 | .scr o,e,h,k=>by unfold Dt.cmp at h;cases h
 | .ty o,e,h,k=>by unfold Dt.cmp at h;cases h
 | .mtp o,e,h,k=>by unfold Dt.cmp at h;cases h
 | .dti _ o,e,h,k=>by unfold Dt.cmp at h;cases h
theorem Mh:∀ (d e:List Dt),cmps d=true->cmps e=true->L3.eqDs (toDs d) (toDs e)=LJ d e
 | [],[],_,_=>by unfold toDs L3.eqDs LJ;rfl
 | [],_::_,_,_=>by simp only [toDs,L3.eqDs,LJ]
 | _::_,[],_,_=>by simp only [toDs,L3.eqDs,LJ]
 | x::xs,y::ys,h,k=>by
  unfold cmps at h k;rw [Bool.and_eq_true] at h k;simp only [toDs,L3.eqDs,LJ];rw [Xt x y h.1 k.1,Mh xs ys h.2 k.2]
end
mutual
theorem dep_D:∀ (d:Dt),(toD d).dep=d.dep
 | .non=>by unfold toD L3.D.dep Dt.dep;rfl
 | .bl b=>by unfold toD L3.D.dep Dt.dep;rfl
 | .int i=>by unfold toD L3.D.dep Dt.dep;rfl
 | .str l=>by unfold toD L3.D.dep Dt.dep;rfl
 | .tup xs=>by unfold toD L3.D.dep Dt.dep;rw [deps_D xs]
 | .lst o xs=>by unfold toD L3.D.dep Dt.dep;rw [deps_D xs]
 | .dic o xs=>by unfold toD L3.D.dep Dt.dep;rfl
 | .ref o=>by unfold toD L3.D.dep Dt.dep;rfl
 | .scr o=>by unfold toD L3.D.dep Dt.dep;rfl
 | .ty o=>by unfold toD L3.D.dep Dt.dep;rfl
 | .mtp o=>by unfold toD L3.D.dep Dt.dep;rfl
 | .dti _ o=>by unfold toD L3.D.dep Dt.dep;rfl
theorem deps_D:∀ (d:List Dt),L3.depL (toDs d)=PK d
 | []=>by unfold toDs L3.depL PK;rfl
 | x::xs=>by simp only [toDs,L3.depL,PK];rw [dep_D x,deps_D xs]
end
section
variable {K:W.Frag} {g:G} {H:Hp}
def Zr (e:Dt) (ds:List Dt):Bool:=ds.any fun d=>eqT d e
def sub1 (x l:List Nat):Bool:=!(Builtin.Str.occurrences (tx l) (tx x) 0 (tx l).length 1).isEmpty
def Yr (neg:Bool):R2:=fun x y H Q=>∃ i j,x=.str i/\y=.str j/\Q (.bl (if neg then !(!(Builtin.Str.occurrences j i 0 j.length 1).isEmpty) else !(Builtin.Str.occurrences j i 0 j.length 1).isEmpty)) H
def rInQ (K:W.Frag) (neg:Bool):R2:=fun x y H Q=>Yr neg x y H Q\/L3.rInA K neg x y H Q
theorem anyD (e:Dt) (he:e.cmp=true):∀ (ds:List Dt),cmps ds=true->((toDs ds).any fun d=>L3.eqD d (toD e))=Zr e ds
 | [],_=>by unfold toDs Zr;rfl
 | d::ds,h=>by
  unfold cmps at h;rw [Bool.and_eq_true] at h;unfold Zr;simp only [toDs,List.any_cons];rw [Xt d e h.1 he,anyD e he ds h.2];rfl
noncomputable def Dt.isNon:Dt->Bool
 | .non=>true
 | _=>false
theorem rep_isNon {d:Dt} {v:V} {P:Fp} (h:Rep K g H d v P):decide (v=V.non)=d.isNon:=by
 cases d with
 | non=>rw [rep_non h];rfl
 | bl b=>rw [rep_bl h];rfl
 | int b=>rw [rep_int h];rfl
 | str b=>rw [rep_str h];rfl
 | tup b=>obtain ⟨a,vs,rfl,_⟩:=h.tup;rfl
 | lst o b=>obtain ⟨a,vs,P',rfl,_⟩:=h.lst;rfl
 | dic o b=>unfold Rep at h;exact h.elim
 | ref k=>unfold Rep at h;obtain ⟨⟨a,_,rfl⟩,_⟩:=h;rfl
 | scr ns=>obtain ⟨a,rfl,_⟩:=h.scr;rfl
 | ty n=>unfold Rep at h;rw [h.1];rfl
 | mtp n=>unfold Rep at h;obtain ⟨⟨a,rfl,_⟩,_⟩:=h;rfl
 | dti o n=>unfold Rep at h;obtain ⟨a,rfl,_⟩:=h;rfl
def rAny (K:W.Frag):List V->Hp->VK->Prop:=fun xs H Q=>∃ (p:Addr) (bs:List Bool),xs=[.ref p]/\Bq K H p (bs.map V.bl)/\Q (.bl (bs.any id)) H
theorem GZ:∀ bs:List Bool,((List.range bs.length).any fun i=>(bs[i]?).getD true)=bs.any id
 | []=>rfl
 | b::bs=>by
  rw [List.length_cons,List.range_succ_eq_map,List.any_cons,List.any_map,List.any_cons,<- GZ bs];rfl
theorem call_anyK {X:Cx} (hc:X.calm=true):BC X (.builtin "any") (rAny X.K):=by
  intro pins s σ H xs us Q I r h;obtain ⟨p,bs,rfl,hp,q⟩:=h;obtain ⟨u,rfl,rx⟩:=vals1 r;cases rx;obtain ⟨its,rv,pl,hz⟩:=I.list hp;have hl:=pl.isList;have hlt:p < s.heap.objs.size:=by obtain ⟨_,e,_⟩:=hl;exact Heap.lt_size e
  refine call_any_walk (wpAny_pyIter_list hl ?_);refine ⟨s.heap.objs.size,[s.heap.objs.size,p],[s.heap.objs.size],its.toArray.size,_,_,fun i=>(bs[i]?).getD true,rfl,Walks.list (A:=X.A.in1) (I.ok.hd hc) _ p (Nat.ne_of_lt hlt) its.toArray,
    ⟨⟨_,Heap.get?_push_size _ rfl,rfl,rfl⟩,hl.push _⟩,fun i v s' Q' E' hP hQ=>?_,fun h' tk hk=>?_⟩
  · obtain ⟨b,e,rfl⟩:=Nz rv (i:=i) (v:=v) (by simpa using hP);simp only [e,Option.getD_some] at hQ;exact wpAny_truthy_bool hQ
  · have e:((List.range its.toArray.size).any fun i=>(bs[i]?).getD true)=bs.any id:=by
      rw [List.size_toArray,<- rv.length,List.length_map];exact GZ bs
    rw [e];exact ⟨.bl _,H,I.kept (JJ hk),rfl,q⟩
def rSumQ (K:W.Frag):List V->Hp->VK->Prop:=fun xs H Q=>∃ (p:Addr) (ns:List Int),xs=[.ref p]/\(Bq K H p (ns.map V.int)\/Ds K H p (ns.map V.int))/\Q (.int ns.sum) H
theorem Kk (ns:List Int):∀ n,n<=ns.length->preSum (fun i=>(ns[i]?).getD 0) n=(ns.take n).sum:=by
 intro n
 induction n with
 | zero=>intro _;simp [preSum]
 | succ n ih =>
  intro h;have hn:n < ns.length:=by omega
  rw [List.take_add_one,List.sum_append,<- ih (by omega)];simp [preSum,hn]
theorem call_sumQ {X:Cx} (hc:X.calm=true):BC X (.builtin "sum") (rSumQ X.K):=by
 intro pins s σ H xs us Q I r h;obtain ⟨p,ns,rfl,hp,q⟩:=h;obtain ⟨u,rfl,rx⟩:=vals1 r;cases rx;have val:∀ {its:List Value},AD (ns.map V.int) its->∀ (i:Nat) (v:Value),its.toArray[i]?=some v->∃ t,v=.int ((ns[i]?).getD 0) t:=fun rv i v hP=>by
  obtain ⟨x,e1,e2⟩:=rv.get' (i:=i) (u:=v) (by simpa using hP);rw [List.getElem?_map] at e1;cases q:ns[i]? with
  | none=>rw [q] at e1;cases e1
  | some b =>
   rw [q] at e1;have:V.int b=x:=Option.some.inj e1;subst this;obtain ⟨t,rfl⟩:=e2;exact ⟨t,by simp [q]⟩
 have fin:∀ {its:List Value},AD (ns.map V.int) its->preSum (fun i=>(ns[i]?).getD 0) its.toArray.size=ns.sum:=fun rv=>by
  rw [List.size_toArray,<- rv.length,List.length_map,Kk ns _ (Nat.le_refl _),List.take_length]
 rcases hp with hp | hp
 ·obtain ⟨its,rv,pl,hz⟩:=I.list hp;have hl:=pl.isList;have hlt:p < s.heap.objs.size:=by obtain ⟨_,e,_⟩:=hl;exact Heap.lt_size e
  refine call_sum_walkG (wpAny_pyIter_list hl ?_);refine ⟨s.heap.objs.size,[s.heap.objs.size,p],[s.heap.objs.size],its.toArray.size,_,_,fun i=>(ns[i]?).getD 0,rfl,Walks.list (A:=X.A.in1) (I.ok.hd hc) _ p (Nat.ne_of_lt hlt) its.toArray,
   ⟨⟨_,Heap.get?_push_size _ rfl,rfl,rfl⟩,hl.push _⟩,fun b hb=>?_,fun i v hP=>val rv i v hP,fun h' tk t' hk=>?_⟩
  ·rw [Heap.size_push];rcases List.mem_cons.mp hb with z | z
   ·rw [z];exact Nat.lt_succ_self _
   ·have:b=p:=by simpa using z
    rw [this];exact Nat.lt_succ_of_lt hlt
  ·rw [fin rv];exact ⟨.int _,H,I.kept (JJ hk),⟨_,rfl⟩,q⟩
 ·obtain ⟨its,rv,pl,hz⟩:=I.tuple hp;have hl:s.heap.IsTuple p its.toArray:=pl;have hlt:p < s.heap.objs.size:=by obtain ⟨_,e,_⟩:=hl;exact Heap.lt_size e
  refine call_sum_walkG (wpAny_pyIter_tuple hl ?_);refine ⟨s.heap.objs.size,[s.heap.objs.size,p],[s.heap.objs.size],its.toArray.size,_,_,fun i=>(ns[i]?).getD 0,rfl,Walks.tuple (A:=X.A.in1) (I.ok.hd hc) _ p (Nat.ne_of_lt hlt) its.toArray,
   ⟨⟨_,Heap.get?_push_size _ rfl,rfl,rfl⟩,?_⟩,fun b hb=>?_,fun i v hP=>val rv i v hP,fun h' tk t' hk=>?_⟩
  ·obtain ⟨o,e,z⟩:=hl;exact ⟨o,Heap.get?_push_of_some _ e,z⟩
  ·rw [Heap.size_push];rcases List.mem_cons.mp hb with z | z
   ·rw [z];exact Nat.lt_succ_self _
   ·have:b=p:=by simpa using z
    rw [this];exact Nat.lt_succ_of_lt hlt
  ·rw [fin rv];exact ⟨.int _,H,I.kept (JJ hk),⟨_,rfl⟩,q⟩
noncomputable def mxI:List Int->Int
 | []=>0
 | [a]=>a
 | a::r=>max a (mxI r)
theorem mxI_spec:∀ (ns:List Int),ns≠[]->mxI ns∈ns/\∀ a∈ns,a<=mxI ns
 | [],h=>absurd rfl h
 | [a],_=>by simp [mxI]
 | a::b::r,_=>by
  obtain ⟨h1,h2⟩:=mxI_spec (b::r) (by simp);show max a (mxI (b::r))∈_/\∀ c∈a::b::r,c<=max a (mxI (b::r));constructor
  ·rcases Int.le_total a (mxI (b::r)) with h | h
   ·rw [Int.max_eq_right h];exact List.mem_cons_of_mem _ h1
   ·rw [Int.max_eq_left h];exact List.mem_cons_self
  ·intro c hc;rcases List.mem_cons.mp hc with rfl | hc
   ·exact Int.le_max_left _ _
   ·exact Int.le_trans (h2 c hc) (Int.le_max_right _ _)
def figs (i:Int):List Nat:=(toString i:Str).cps.toList
end
section
end
section
end
section
variable {K:W.Frag}
def rIndexD (K:W.Frag):V->List V->Hp->VK->Prop:=fun x vs H Q=>∃ p xs y ds e j,x=.ref p/\vs=[y]/\Bq K H p xs/\L3.IsL K H xs ds/\L3.Is K H y e/\L3.depL ds<=150/\(∃ d,ds[j]?=some d/\L3.eqD d e=true)/\(∀ (m:Nat) (d:L3.D),m < j->ds[m]?=some d->L3.eqD d e=false)/\Q (.int (j:Nat)) H
theorem mt_indexD {X:Cx} {j:Nat} (hr:Room j X.A):bT X "list.index" (rIndexD X.K):=by
 intro pins s σ H x vs v us Q I rx rv h;obtain ⟨p,xs,y,ds,e,j,rfl,rfl,hp,hds,hy,hdp,⟨dj,ej,hit⟩,hno,q⟩:=h;cases rx;obtain ⟨u,rfl,ru⟩:=rv.one;obtain ⟨its,r,pl,hz⟩:=I.list hp;obtain ⟨⟨cls,dd,data,sl⟩,ho,hc,n,hd⟩:=pl.isList;simp only at hc hd;subst hc hd;have hu:X.A.units+1+150 < cLine:=by have:=hr.un;omega
 have hl:its.length=ds.length:=by rw [<- r.length,hds.length]
 have hj:j < ds.length:=(List.getElem?_eq_some_iff.mp ej).1;have hs:sizeLine=16777216:=sizeLine_eq;have hxl:=r.length;have at_:∀ m (hm:m < its.toArray.size),∃ d,ds[m]?=some d/\L3.eqW its ds e its.toArray[m]=L3.eqD d e:=fun m hm=>by
  have hm':m < its.length:=by simpa using hm
  have hd:ds[m]?=some ds[m]:=List.getElem?_eq_getElem (by omega);exact ⟨ds[m],hd,by simpa using L3.eqW_at I r hds (List.getElem?_eq_getElem hm') hd⟩
 refine call_meets F.slot_list_index ⟨_,ho,rfl⟩ F.entry_list_index (F.args_list_index_2 _ _)
  (SeqAt.list_indexAt p its.toArray n dd sl u (L3.eqW its ds e) j (by simpa [hl] using hj) (by omega) ?_ ?_) ⟨ho,fun w hw=>L3.all_eqW I r hds ru hy hdp hu w (by simpa using hw),⟨.int (j:Nat),H,I.tok _,⟨_,rfl⟩,q⟩⟩
 ·obtain ⟨w,e1,e2⟩:=at_ j (by simpa [hl] using hj);rw [ej] at e1;cases e1;rw [e2];exact hit
 ·intro m hm hlt;obtain ⟨w,e1,e2⟩:=at_ m hm;rw [e2];exact hno m w hlt e1
theorem toDs_get:∀ (ds:List Dt) (i:Nat),(toDs ds)[i]?=(ds[i]?).map toD
 | [],i=>by unfold toDs;simp
 | d::ds,0=>by unfold toDs;simp
 | d::ds,i+1=>by
  have:=toDs_get ds i;simp only [toDs,List.getElem?_cons_succ];exact this
def rIndexTD (K:W.Frag):V->List V->Hp->VK->Prop:=fun x vs H Q=>∃ p xs y ds e j,x=.ref p/\vs=[y]/\H p=some (.tup xs)/\L3.IsL K H xs ds/\L3.Is K H y e/\L3.depL ds<=150/\(∃ d,ds[j]?=some d/\L3.eqD d e=true)/\(∀ (m:Nat) (d:L3.D),m < j->ds[m]?=some d->L3.eqD d e=false)/\Q (.int (j:Nat)) H
theorem mt_indexTD {X:Cx} {j:Nat} (hr:Room j X.A):bT X "tuple.index" (rIndexTD X.K):=by
 intro pins s σ H x vs v us Q I rx rv h;obtain ⟨p,xs,y,ds,e,j,rfl,rfl,hp,hds,hy,hdp,⟨dj,ej,hit⟩,hno,q⟩:=h;cases rx;obtain ⟨u,rfl,ru⟩:=rv.one;obtain ⟨hz,its,r,⟨cls,dd,data,sl⟩,ho,hc,hdd,n,hd⟩:=I.hok p _ hp;simp only at hc hd;subst hc hd;have hu:X.A.units+1+150 < cLine:=by have:=hr.un;omega
 have hl:its.length=ds.length:=by rw [<- r.length,hds.length]
 have hj:j < ds.length:=(List.getElem?_eq_some_iff.mp ej).1;have at_:∀ m (hm:m < its.toArray.size),∃ d,ds[m]?=some d/\L3.eqW its ds e its.toArray[m]=L3.eqD d e:=fun m hm=>by
  have hm':m < its.length:=by simpa using hm
  have hd:ds[m]?=some ds[m]:=List.getElem?_eq_getElem (by omega);exact ⟨ds[m],hd,by simpa using L3.eqW_at I r hds (List.getElem?_eq_getElem hm') hd⟩
 refine call_meets F.slot_tuple_index ⟨_,ho,rfl⟩ F.entry_tuple_index (F.args_tuple_index_2 _ _)
  (HR p its.toArray n dd sl u (L3.eqW its ds e) j (by simpa [hl] using hj) ?_ ?_) ⟨ho,fun w hw=>L3.all_eqW I r hds ru hy hdp hu w (by simpa using hw),⟨.int (j:Nat),H,I.tok _,⟨_,rfl⟩,q⟩⟩
 ·obtain ⟨w,e1,e2⟩:=at_ j (by simpa [hl] using hj);rw [ej] at e1;cases e1;rw [e2];exact hit
 ·intro m hm hlt;obtain ⟨w,e1,e2⟩:=at_ m hm;rw [e2];exact hno m w hlt e1
end
section
end
section
variable {K:W.Frag}
noncomputable def isSub (k T:String):Bool:=k == T || (k == "bool" && T == "int")
theorem kit_ok (K:W.Frag) {k T:String} (hk:k∈["NoneType", "bool", "int", "str", "tuple", "list"]) (hT:T∈["int", "bool", "str", "tuple", "list"]):W.kitOne K (.type k) (.type T)=some (isSub k T):=by
 simp only [List.mem_cons,List.not_mem_nil,or_false] at hk hT;rcases hk with rfl | rfl | rfl | rfl | rfl | rfl<;>rcases hT with rfl | rfl | rfl | rfl | rfl<;>kernel_rfl
def rLeA:R2:=fun x y H Q=>(Pt fun i j=>.bl (decide (i<=j))) x y H Q\/∃ i j,x=.str i/\y=.str j/\Q (.bl (!decide (j.cps.toList < i.cps.toList))) H
theorem Zh {X:Cx}:CN X (compareOp .LtE) (fun x y H Q=>∃ i j,x=.str i/\y=.str j/\Q (.bl (!decide (j.cps.toList < i.cps.toList))) H):=by
 intro pins s σ H x y v u Q I rx ry h;obtain ⟨i,j,rfl,rfl,q⟩:=h;obtain ⟨t,rfl⟩:=rx;obtain ⟨t',rfl⟩:=ry;exact PySem.P.le_str ⟨.bl _,H,I,rfl,q⟩
theorem op_leAQ {X:Cx}:CN X (compareOp .LtE) rLeA:=dQ.or Zh
end
section
end
section
end
theorem Zj {X:Cx}:CN X (compareOp .In) (Yr false):=Oi
theorem Oh {X:Cx}:CN X (compareOp .NotIn) (Yr true):=JH
theorem op_inQ {X:Cx} {j:Nat} (hr:Room j X.A):CN X (compareOp .In) (rInQ X.K false):=Zj.or (L3.op_inA hr)
theorem op_notInQ {X:Cx} {j:Nat} (hr:Room j X.A):CN X (compareOp .NotIn) (rInQ X.K true):=Oh.or (L3.op_notInA hr)
noncomputable abbrev tI (xs:List Int):Dt:=.tup (xs.map .int)
end Q
set_option maxHeartbeats 2000000
set_option maxHeartbeats 2000000
namespace L2
open PySem PySem.Spec PyProof.Rows
noncomputable def cT (ifs:List Expr) (env:Env):Sem Bool:=forIn ifs true fun c r=>if r=true then do let ok <- isTrue c env (eval c env);pure (ForInStep.yield ok) else pure (ForInStep.yield r)
def UI (X:Cx) (ifs:List Expr) (t:TT):Prop:=
 ∀ (pins:List (Addr×Obj)) (s:Shared) (σ:St) (H:Hp) (Q:Bool->Hp->Prop),Inv X pins σ H s->t σ H Q->wpAny (model X.prog X.w) X.A (cT ifs X.env) (TP X pins σ Q) X.xe s
theorem UI.one {X:Cx} {c:Expr} {t:TT} (h:PT X c t):UI X [c] t:=fun pins s σ H Q I q=>wpAny_tests_one (h pins s σ H Q I q)
theorem Jg {prog:Program} {w:World} {A:Around} {R:Result->Shared->Prop} {s:Shared} {elt target iter:Expr} {ifs:List Expr} {scope:Scope} {pos:Pos} {it acc:Value} {env:Env} (I:Nat->Shared->Prop)
    (turn:∀ n s,I n s->wpAny (model prog w) A (pyNext it) (fun r s₁=>match r with
      | none=>R (.ok .next) s₁
      | some v=>wpAny (model prog w) A (letOwnedTupleGo target it v) (fun _ s₂=>wpAny (model prog w) A (assign target env v) (fun _ s₃=>wpAny (model prog w) A (cT ifs env) (fun ok s₄=>if ok=true then wpAny (model prog w) A (eval elt env) (fun x s₅ =>
          wpAny (model prog w) A (call (.builtin "list.append") [acc,x]) (fun _ s₆=>∃ m,m < n/\I m s₆) (fun _ _=>False) s₅) (fun _ _=>False) s₄ else ∃ m,m < n/\I m s₄) (fun _ _=>False) s₃) (fun _ _=>False) s₂) (fun _ _=>False) s₁) (fun _ _=>False) s)
    (n:Nat) (h:I n s) :
    codeAny (model prog w) A (.compLoop (.ListComp elt [⟨target,iter,ifs,0⟩] scope pos) 0 it acc env) R s:=by
  refine codeAny_loop rfl I (fun n s hI=>?_) n h;show wpAny _ _ ((compTurn (.ListComp elt [⟨target,iter,ifs,0⟩] scope pos) 0 it acc env).onRaise (fun x=>do noteFrame x env;theTreesLotGoes x)) _ _ s;refine wpAny_noted ?_;rw [compTurn_list];have no:∀ {E:Value->Shared->Prop},∀ (e:Value) (s:Shared),False->E e s:=fun _ _ z=>z.elim
  refine wpAny_bind (wpAny_standAt (wpAny_bind (wpAny_mono (turn n s hI) (fun r s₁ h₁=>?_) no)));cases r with
  | none=>exact wpAny_pure h₁
  | some v =>
    refine wpAny_bind (wpAny_mono h₁ (fun _ s₂ h₂=>?_) no);refine wpAny_bind (wpAny_mono h₂ (fun _ s₃ h₃=>wpAny_bind (wpAny_mono h₃ (fun ok s₄ h₄=>?_) no)) no);cases ok with
    | false=>exact wpAny_pure ⟨rfl,h₄⟩
    | true=>exact wpAny_bind (wpAny_bind (wpAny_mono h₄ (fun x s₅ h₅=>wpAny_bind (wpAny_mono h₅ (fun _ s₆ h₆=>wpAny_pure (wpAny_pure ⟨rfl,h₆⟩)) no)) no))
section
variable {X:Cx} {tg iter elt:Expr} {ifs:List Expr} {scope:Scope} {pos:Pos} {g:TG} {te:TE} {tc:TT} {js:List Nat} {wi:TI}
def Mx (js:List Nat) (g:TG) (tc:TT) (te:TE) (J:It) (σ:St) (Fin:List V->Hp->Prop) (W:Nat->Nat->List V->Hp->Prop):Prop:=∀ i m ys H,W i m ys H ->
 (J.stop i H/\Fin ys H)\/(J.go i H/\ys.length < sizeLine/\∃ N:List V->Hp->Prop,(∀ zs H',N zs H'->∃ m',m' < m/\W (i+1) m' zs H')/\∀ x H',J.yld i H x H'->g x (blank js σ) H' fun σ2 H2=>tc σ2 H2 fun b H3=>if b=true then te σ2 H3 fun v H4=>N (ys++[v]) H4 else N ys H3)
theorem FX {pins:List (Addr×Obj)} {s2:Shared} {σ:St} {H2:Hp} {it:Addr} {fp:List Addr} {tn:Nat->Heap->Prop} {J:It} {cl:List (Str×Addr)} {W:Nat->Nat->List V->Hp->Prop} {Fin:List V->Hp->Prop} {E:Value->Shared->Prop} {RR:Value->Addr->Result->Shared->Prop}
    (hin:InnerIn X.N X.env.scope scope js) (hc:X.calm=true) (hg:∀ cl C s H fp,PG (X.inner scope cl C s H fp) tg g) (hgo:QA js g) (hcn:∀ cl C s H fp,UI (X.inner scope cl C s H fp) ifs tc) (he:∀ cl C s H fp,PE (X.inner scope cl C s H fp) elt te)
    (I2:Inv X pins σ H2 s2) (T:Turn X.prog X.w X.K tg J fp it tn) (t0:tn 0 s2.heap) (hf:∀ b∈fp,FpOk X pins H2 b)
    (hcl:∀ x c,cl.lookup x=some c->X.env.cells.lookup x=some c) (hfr:∀ x,scope.names.lookup x=some .free->∃ c,cl.lookup x=some c)
    {m0:Nat} (w0:W 0 m0 [] H2) (turn:Mx js g tc te J σ Fin W)
    (hRR:∀ D C s' H' ys m,Inv X pins σ (upd H' D (.lst ys)) s'->H' D=none->Fin ys H'->s'.heap.Ns C m->C≠X.env.locals->X.s₀.heap.objs.size<=C->(∀ x c,X.env.cells.lookup x=some c->c≠C)->(∀ p∈X.pn++pins,p.1≠C)->H' C=none->D≠C->RR (.ref D) C (.ok .next) s') :
    wpAny (model X.prog X.w) X.A (newList []) (fun acc s₃=>wpAny (model X.prog X.w) X.A (newFunctionEnv scope X.env.globals cl [] X.env.qual none .none (some X.env)) (fun cenv s₄ =>
      codeAny (model X.prog X.w) X.A (.compStart (.ListComp elt [⟨tg,iter,ifs,0⟩] scope pos) 0 (.ref it) acc { cenv with scope:=relabel scope X.env }) (RR acc cenv.locals) s₄) E s₃) E s2:=by
  have hfe:∀ b∈fp,b < s2.heap.objs.size:=fun b hb=>let ⟨_,e,_⟩:=T.obj _ _ t0 b hb;Heap.lt_size e
  refine wpAny_newObj_type (Br ?_);dsimp only
  generalize hHH:s2.heap.push { cls:=.type "list", dict:=none,data:=.seq ([]:List Value).toArray }=HH
  have hC:HH.objs.size=s2.heap.objs.size+1:=by rw [<- hHH,Heap.size_push]
  have hDC:s2.heap.objs.size≠HH.objs.size:=by rw [hC];exact Nat.ne_of_lt (Nat.lt_succ_self _)
  have hCle:s2.heap.objs.size<=HH.objs.size:=by rw [hC];exact Nat.le_succ _
  have below:∀ b,b < s2.heap.objs.size->b≠HH.objs.size/\b≠s2.heap.objs.size:=fun b hb=>⟨by rw [hC];exact Nat.ne_of_lt (Nat.lt_succ_of_lt hb),Nat.ne_of_lt hb⟩
  obtain ⟨h₁,hh₁⟩:∃ h₁,pushCells (HH.push { cls:=.type "dict", data:=.dict #[] }) scope.names=h₁:=⟨_,rfl⟩
  have old:∀ b o,s2.heap.get? b=some o->h₁.get? b=some o:=fun b o e=>hh₁▸pushCells_keeps _ _ b o (Heap.get?_push_of_some _ (hHH▸Heap.get?_push_of_some _ e))
  have hacc:h₁.get? s2.heap.objs.size=some { cls:=.type "list", data:=.seq ([]:List Value).toArray 0 }:=hh₁▸pushCells_keeps _ _ _ _ (Heap.get?_push_of_some _ (hHH▸Heap.get?_push_size _ rfl))
  have hns₁:h₁.Ns HH.objs.size (fun _=>none):=hh₁▸(Heap.Ns.new HH (.type "dict")).keeps (pushCells_keeps _ _)
  obtain ⟨L,hown⟩:=WT (s:=s2) (C:=HH.objs.size) hin hcl hfr (h:=HH.push { cls:=.type "dict", data:=.dict #[] }) hCle (Heap.size_push ..)
  rw [hh₁] at hown ⊢;generalize hcc:cellsFrom (HH.objs.size+1) scope.names cl=cl' at L hown ⊢;clear hh₁ hcc;generalize hDD:s2.heap.objs.size=D at *;generalize hCC:HH.objs.size=C at *;have hDle:s2.heap.objs.size<=D:=Nat.le_of_eq hDD;have hCle':s2.heap.objs.size<=C:=by rw [hDD];exact hCle
  have nocell:∀ (its:List Value) (n:Nat) v,({ cls:=.type "list", data:=.seq its.toArray n }:Obj).data≠.cell v:=fun _ _ _ z=>by cases z
  have I4:Inv (X.inner scope cl' C s2 H2 fp) (pins++[(D,{ cls:=.type "list", data:=.seq ([]:List Value).toArray 0 })]) (blank js σ) H2 { s2 with heap:=h₁,toks:=s2.toks }:=
    I2.enter hin hf (by rw [hDD];exact hfe) hCle' hDle hDC L hown old hns₁ hacc (nocell _ _)
  have stat:∀ {H':Hp} {o:Obj},(∀ b∈fp,H' b=none)->∀ b∈fp,FpOk (X.inner scope cl' C s2 H2 fp) (pins++[(D,o)]) H' b:=fun {H' o} hn b hb=>by
    obtain ⟨_,f1,f2,f3,f4,f5⟩:=hf b hb;refine ⟨hn b hb,(below b (hfe b hb)).1,fun z=>?_,.inl hb,fun x c e=>L.ne e (by rw [hDD];exact hfe b hb) f4,fun p hp=>?_⟩
    · rcases List.mem_cons.mp (I2.stkSub b z) with e | e
      · exact f1 e
      · exact f2 e
    · have hp':p∈X.pn++(pins++[(D,o)]):=hp;rw [<- List.append_assoc] at hp';rcases List.mem_append.mp hp' with z | z
      · exact f5 p z
      · have e:p=(D,o):=by simpa using z
        subst e;exact fun z=>(below b (hfe b hb)).2 z.symm
  have loop:∀ s₃:Shared,s₃={ s2 with heap:=h₁,toks:=s2.toks } ->
      codeAny (model X.prog X.w) X.A (.compLoop (.ListComp elt [⟨tg,iter,ifs,0⟩] scope pos) 0 (.ref it) (.ref D) (compEnvC scope cl' C X.env)) (RR (.ref D) C) s₃:=by
    rintro s₃ rfl
    refine Jg (fun n s'=>∃ i ys its k H',Inv (X.inner scope cl' C s2 H2 fp) (pins++[(D,{ cls:=.type "list", data:=.seq its.toArray k })]) (blank js σ) H' s'/\tn i s'.heap/\(∀ b∈fp,H' b=none)/\AD ys its/\ys.length<=sizeLine/\W i n ys H') ?_ m0
      ⟨0,[],[],0,H2,I4,T.keep _ _ _ t0 fun b hb o e=>old b o e,fun b hb=>(hf b hb).1,.nil,Nat.zero_le _,w0⟩
    rintro n s3 ⟨i,ys,its,k,H3,I3,st3,fr3,hv3,hz3,w3⟩;rcases turn i n ys H3 w3 with ⟨stop,fin⟩ | ⟨go,hlt,N,hN,step⟩
    · refine AZ (T.done (X.inner scope cl' C s2 H2 fp) rfl rfl rfl hc i _ s3 _ H3 _ I3 (stat fr3) st3 stop) fun r s4 ⟨hr,I4⟩=>?_
      subst hr
      have pD:=I4.pin (D,{ cls:=.type "list", data:=.seq its.toArray k }) (List.mem_append_right _ (List.mem_append_right _ List.mem_cons_self))
      obtain ⟨m,hn,_⟩:=id I4.loc;refine hRR D C s4 H3 ys m (I2.leave (fp:=fp) hf rfl I4 hDle pD.2.1 hz3 hv3 pD.1) pD.2.1 fin hn ?_ ?_ (fun x c e=>?_) (fun p hp=>?_) I4.free hDC
      · exact Nat.ne_of_gt (Nat.lt_of_lt_of_le I2.lt hCle')
      · exact Nat.le_trans I2.sz hCle'
      · exact Nat.ne_of_lt (Nat.lt_of_lt_of_le (I2.cellLt e) hCle')
      · exact Nat.ne_of_lt (Nat.lt_of_lt_of_le (I2.pinLt hp) hCle')
    · refine AZ (T.item (X.inner scope cl' C s2 H2 fp) rfl rfl rfl hc i _ s3 _ H3 _ I3 (stat fr3) st3 go) fun r s4 ⟨u,hr,h4⟩=>?_
      subst hr;refine AZ h4 fun _ s5 ⟨x,H5,I5,r5,y5,st5,fr5⟩=>?_
      have I5':=I5.pinned (stat fr5) (T.obj _ _ st5);refine AZ (hg cl' C s2 H2 fp _ s5 _ H5 x u _ I5' r5 (hgo _ _ _ _ (step x H5 y5))) fun _ s6 ⟨σ6,H6,I6,⟨hl6,hs6⟩,q6⟩=>?_
      refine AZ (hcn cl' C s2 H2 fp _ s6 σ6 H6 _ I6 q6) fun ok s6b ⟨H6b,I6b,q6b⟩=>?_
      have other:∀ (s7:Shared) (v:Value) (b:Addr) (u:Obj),b≠D->s7.heap.get? b=some u->(s7.heap.update D (Obj.mapSeq fun a=>a.push v)).get? b=some u:=fun s7 v b u hb hu=>(Heap.get?_update_other s7.heap (Obj.mapSeq fun a=>a.push v) (Ne.symm hb)).trans hu
      cases ok with
      | false =>
        obtain ⟨m',hm,w7⟩:=hN _ _ q6b
        have pD:=I6b.pin (D,{ cls:=.type "list", data:=.seq its.toArray k }) (List.mem_append_right _ (List.mem_append_left _ (List.mem_append_right _ List.mem_cons_self)))
        have fpk:∀ b∈fp,∀ o,s5.heap.get? b=some o->s6b.heap.get? b=some o/\H6b b=none:=fun b hb o e =>
          let z:=I6b.pin (b,o) (List.mem_append_right _ (List.mem_append_right _ (DC hb e)));⟨z.1,z.2.1⟩
        have I8:Inv (X.inner scope cl' C s2 H2 fp) pins (blank js σ) H6b s6b:=by
          have Ia:Inv (X.inner scope cl' C s2 H2 fp) pins σ6 H6b s6b:=I6b.pins_of fun p hp=>I6b.pin p (List.mem_append_right _ (List.mem_append_left _ (List.mem_append_left _ hp)))
          exact Ia.weak hl6.symm fun i v e=>by
            obtain ⟨hj,_⟩:=FP js σ i v e;rw [hs6 i hj];exact e
        refine ⟨m',hm,i+1,ys,its,k,H6b,I8.pins_of (fun p hp=>?_),T.keep _ _ _ st5 fun b hb o e=>(fpk b hb o e).1,fun b hb=>?_,hv3,hz3,w7⟩
        · rcases List.mem_append.mp hp with z | z
          · exact I8.pin p (List.mem_append_right _ z)
          · have e:p=(D,_):=List.mem_singleton.mp z;subst e;exact ⟨pD.1,pD.2.1,pD.2.2.1,pD.2.2.2.1,nocell _ _⟩
        · obtain ⟨o,e,_⟩:=T.obj _ _ st5 b hb;exact (fpk b hb o e).2
      | true =>
      refine AZ (he cl' C s2 H2 fp _ s6b σ6 H6b _ I6b q6b) fun v s7 ⟨y,H7,I7,r7,n7⟩=>?_
      obtain ⟨m',hm,w7⟩:=hN _ _ n7
      have pD:=I7.pin (D,{ cls:=.type "list", data:=.seq its.toArray k }) (List.mem_append_right _ (List.mem_append_left _ (List.mem_append_right _ List.mem_cons_self)))
      have lt:its.toArray.size<=sizeLine:=by rw [List.size_toArray,<- hv3.length];exact hz3
      refine call_meets F.slot_list_append ⟨_,pD.1,rfl⟩ F.entry_list_append (F.args_list_append_2 _ _) (PySem.list_append D its.toArray k v lt) ⟨pD.1,?_⟩
      obtain ⟨k',q⟩:∃ k',(s7.heap.update D (Obj.mapSeq fun a=>a.push v)).get? D=some { cls:=.type "list", data:=.seq (its.toArray.push v) k' }:=⟨_,PySem.IsL.update pD.1 (fun a=>a.push v)⟩
      have eq:(its.toArray.push v)=(its++[v]).toArray:=by simp
      have fpk:∀ b∈fp,∀ o,s5.heap.get? b=some o->s7.heap.get? b=some o/\H7 b=none:=fun b hb o e =>
        let z:=I7.pin (b,o) (List.mem_append_right _ (List.mem_append_right _ (DC hb e)));⟨z.1,z.2.1⟩
      have other:∀ b u,b≠D->s7.heap.get? b=some u->(s7.heap.update D (Obj.mapSeq fun a=>a.push v)).get? b=some u:=fun b u hb hu=>(Heap.get?_update_other s7.heap (Obj.mapSeq fun a=>a.push v) (Ne.symm hb)).trans hu
      have I8:Inv (X.inner scope cl' C s2 H2 fp) pins (blank js σ) H7 { s7 with heap:=s7.heap.update D (Obj.mapSeq fun a=>a.push v),toks:=s7.toks }:=by
        have Ia:Inv (X.inner scope cl' C s2 H2 fp) pins σ6 H7 s7:=I7.pins_of fun p hp=>I7.pin p (List.mem_append_right _ (List.mem_append_left _ (List.mem_append_left _ hp)))
        have Ib:Inv (X.inner scope cl' C s2 H2 fp) pins (blank js σ) H7 s7:=Ia.weak hl6.symm fun i v e=>by
          obtain ⟨hj,_⟩:=FP js σ i v e;rw [hs6 i hj];exact e
        refine Ib.turned (it:=D) (fun b o hb e=>other b o hb e) pD.2.1 pD.2.2.1 (.inr hDle) (fun x c e=>?_) (fun p hp=>?_)
        · cases q:AJ scope x with
          | false=>exact Nat.ne_of_lt (Nat.lt_of_lt_of_le (I2.cellLt (L.old x c e q)) hDle)
          | true=>exact Nat.ne_of_gt (Nat.lt_of_le_of_lt hCle (L.own x c e q).2)
        · exact Nat.ne_of_lt (Nat.lt_of_lt_of_le (I2.pinLt hp) hDle)
      refine ⟨m',hm,i+1,ys++[y],its++[v],k',H7,I8.pins_of (fun p hp=>?_),T.keep _ _ _ st5 fun b hb o e=>other b o (below b (hfe b hb)).2 (fpk b hb o e).1,fun b hb=>?_,hv3.append (.cons r7 .nil),by rw [List.length_append,List.length_singleton];omega,w7⟩
      · rcases List.mem_append.mp hp with z | z
        · exact I8.pin p (List.mem_append_right _ z)
        · have e:p=(D,_):=List.mem_singleton.mp z;subst e;rw [<- eq];exact ⟨q,pD.2.1,pD.2.2.1,pD.2.2.2.1,nocell _ _⟩
      · obtain ⟨o,e,_⟩:=T.obj _ _ st5 b hb;exact (fpk b hb o e).2
  exact codeAny_compStart_list (loop _ rfl) (T.self _ 0 _ _ _ (T.keep _ _ _ t0 fun b hb o e=>old b o e) (loop _ rfl))
def Er (wi:TI) (js:List Nat) (g:TG) (tc:TT) (te:TE):TE:=fun σ H Q=>wi σ H fun J H1=>∃ W:Nat->Nat->List V->Hp->Prop,(∃ m,W 0 m [] H1)/\Mx js g tc te J σ (fun ys H=>∀ p,H p=none->Q (.ref p) (upd H p (.lst ys))) W
theorem Km (hin:innerOk X.N X.env.scope scope js=true) (hc:X.calm=true) (hi:PI X tg iter wi) (hg:∀ cl C s H fp,PG (X.inner scope cl C s H fp) tg g) (hgo:QA js g) (hcn:∀ cl C s H fp,UI (X.inner scope cl C s H fp) ifs tc) (he:∀ cl C s H fp,PE (X.inner scope cl C s H fp) elt te)
    (hs:∀ x,foldedSetIterable iter X.env x=pure x:=by intro _;rfl):PE X (.ListComp elt [⟨tg,iter,ifs,0⟩] scope pos) (Er wi js g tc te):=by
  intro pins s σ H Q I h;have hin:=Gu hin;obtain ⟨cl,hclos,hcl,hfr⟩:=HC (scope:=scope) (env:=X.env) (fun x hx=>I.ok.has x (hin.fr x hx)) hin.uniqF;rw [eval_ListComp];refine wpAny_comprehension_free (use:=none) rfl hs hclos hin.kind hin.uniqL ?_;refine AZ (hi pins s σ H _ I h) fun v s1 h1=>AZ h1 fun itv s2 h2=>?_
  obtain ⟨it,fp,tn,J,H2,e,I2,T,st2,f2,W,⟨m0,w0⟩,turn⟩:=h2;subst e;refine FX (RR:=fun acc C=>compPost (model X.prog X.w) X.A X.xe none (EP X pins σ Q) acc C) hin hc hg hgo hcn he I2 T st2 f2 hcl hfr w0 turn ?_;intro D C s' H' ys m I' hD fin hn c1 c2 c3 c4 c5 c6;refine ⟨m,hn,fun h' sb=>⟨.ref D,_,I'.turned (t':=s'.toks) (it:=C) (fun b o hb e=>(sb.2 b hb).trans e) ?_ c1 (.inr c2) c3 c4,rfl,fin D hD⟩⟩;rw [AL (Ne.symm c6)];exact c5
theorem Ki {i:Nat} {x:Str} {pos' spos:Pos} (hN:X.N.Nodup) (hix:X.N[i]?=some x) (hx:Loc X.env.scope x)
    (hin:innerOk X.N X.env.scope scope js=true) (hc:X.calm=true) (hi:PI X tg iter wi) (hg:∀ cl C s H fp,PG (X.inner scope cl C s H fp) tg g) (hgo:QA js g) (hcn:∀ cl C s H fp,UI (X.inner scope cl C s H fp) ifs tc) (he:∀ cl C s H fp,PE (X.inner scope cl C s H fp) elt te)
    (hsw:swapsWith (.ListComp elt [⟨tg,iter,ifs,0⟩] scope pos) (some (.Name x pos')) spos.line X.env=pure true:=by rfl)
    (hs:∀ x,foldedSetIterable iter X.env x=pure x:=by intro _;rfl)
    (hf:X.fn x=true\/X.env.scope.names.lookup x=some .local:=by first | exact .inl rfl | exact .inr rfl | assumption) :
    PS X (.Assign [.Name x pos'] (.ListComp elt [⟨tg,iter,ifs,0⟩] scope pos) spos) (Lq (Er wi js g tc te) (DW i)):=by
  intro pins s σ H D I h;have hin:=Gu hin;obtain ⟨cl,hclos,hcl,hfr⟩:=HC (scope:=scope) (env:=X.env) (fun x hx=>I.ok.has x (hin.fr x hx)) hin.uniqF;rw [exec_Assign_Name_used _ _ _ _ hsw];refine wpAny_bind (wpAny_standAt (wpAny_bind ?_));show wpAny _ _ (do let _ <- comprehension (.ListComp elt [⟨tg,iter,ifs,0⟩] scope pos) scope X.env _ (newList []) false (eval iter X.env) (some (assign (.Name x pos') X.env))) _ _ s;refine wpAny_bind (AZ (wpAny_comprehension_free (use:=some (assign (.Name x pos') X.env)) (Q:=fun _ s'=>SP X pins D .next s') rfl hs hclos hin.kind hin.uniqL ?_) (fun _ s' hq=>wpAny_pure (wpAny_pure hq)));refine AZ (hi pins s σ H _ I h) fun v s1 h1=>AZ h1 fun itv s2 h2=>?_
  obtain ⟨it,fp,tn,J,H2,e,I2,T,st2,f2,W,⟨m0,w0⟩,turn⟩:=h2;subst e;refine FX (RR:=fun acc C=>compPost (model X.prog X.w) X.A X.xe (some (assign (.Name x pos') X.env)) (fun _ s'=>SP X pins D .next s') acc C) hin hc hg hgo hcn he I2 T st2 f2 hcl hfr w0 turn ?_;intro DD C s' H' ys m I' hD fin hn c1 c2 c3 c4 c5 c6;show wpAny _ _ (assign (.Name x pos') X.env (.ref DD)) _ _ _;refine wpAny_assign_Name (Hu (v:=.ref DD) I' hN hix hx rfl (fun s'' I'' ⟨a,sb,ha⟩=>?_) hf);have ne:C≠a:=by
    rcases ha with z | z
    · rw [z];exact c1
    · exact (c3 x a z).symm
  refine ⟨m,hn.sameBut sb ne,fun h' sb'=>⟨_,_,I''.turned (t':=s''.toks) (it:=C) (fun b o hb e=>(sb'.2 b hb).trans e) ?_ c1 (.inr c2) c3 c4,fin DD hD⟩⟩;rw [AL (Ne.symm c6)];exact c5
end
end L2
namespace R
open PySem L2
section
variable {γ:Type}
noncomputable def CV (g:Dv->γ->Option (Dv×γ)):List Dv->γ->Option (List Dv×γ)
 | [],c=>some ([],c)
 | x::xs,c=>(g x c).bind fun p=>(CV g xs p.2).bind fun q=>some (p.1::q.1,q.2)
noncomputable def BO (g:Dv->Option Dv):List Dv->Option (List Dv)
 | []=>some []
 | x::xs=>(g x).bind fun p=>(BO g xs).bind fun q=>some (p::q)
noncomputable def Nu (g:Dv->γ->Option (Option Dv×γ)):List Dv->γ->Option (List Dv×γ)
 | [],c=>some ([],c)
 | x::xs,c=>(g x c).bind fun p=>(Nu g xs p.2).bind fun q=>some (match p.1 with | some d=>d::q.1 | none=>q.1,q.2)
noncomputable def Ot (g:Dv->Option (Option Dv)):List Dv->Option (List Dv)
 | []=>some []
 | x::xs=>(g x).bind fun p=>(Ot g xs).bind fun q=>some (match p with | some d=>d::q | none=>q)
noncomputable def En {α:Type} (xs:List Dv) (o:Option α):Option α:=if xs.length<=1000000 then o else none
end
theorem Ef {α:Type} {xs:List Dv} {o:Option α} {a:α} (h:En xs o=some a):xs.length<=1000000/\o=some a:=by
 unfold En at h;split at h
 ·rename_i z;exact ⟨z,h⟩
 ·cases h
section
variable {K:W.Frag} {g g':G} {H H':Hp} {Γ:Gm} {m:M} {σ:St} {P:Fp}
theorem Rel.sub {Γ':Gm} {σ':St} (h:Rel K g H Γ m σ P) (hl:Γ'.length=Γ.length) (hs:σ'.length=σ.length) (k:∀ (i o:Nat),Γ'[i]?=some (some o)->Γ[i]?=some (some o)/\σ'[i]?=σ[i]?):∃ P',Rel K g H Γ' m σ' P'/\∀ a,P' a->P a:=by
 obtain ⟨zd,F,h1,h4⟩:=h;refine ⟨fun a=>∃ i,(∃ o,Γ'[i]?=some (some o))/\F i a,⟨zd,fun i a=>(∃ o,Γ'[i]?=some (some o))/\F i a,⟨by rw [hl];exact h1.l1,by rw [hs,hl];exact h1.l2,fun i o e=>?_,fun i e a q=>q.1.elim fun o z=>e o z,fun i j n a q z=>h1.dj i j n a q.2 z.2⟩,fun _=>Iff.rfl⟩,fun a ⟨i,_,q⟩=>(h4 a).mpr ⟨i,q⟩⟩;obtain ⟨e',es⟩:=k i o e;obtain ⟨d,v,e1,e2,r⟩:=h1.rep i o e';have eq:(fun a=>(∃ o,Γ'[i]?=some (some o))/\F i a)=F i:=funext fun a=>propext ⟨fun z=>z.2,fun z=>⟨⟨o,e⟩,z⟩⟩
 exact ⟨d,v,e1,by rw [es];exact e2,by show Rep K g H o d v fun a=>(∃ o,Γ'[i]?=some (some o))/\F i a;rw [eq];exact r⟩
theorem Rel.more {Γ':Gm} {σ':St} (h:Rel K g H Γ m σ P) (hl:Γ'.length=Γ.length) (hs:σ'.length=σ.length) (k:∀ (i o:Nat),Γ'[i]?=some (some o)->(Γ[i]?=some (some o)/\σ'[i]?=σ[i]?)\/(o=0/\∃ d v,m[i]?=some d/\σ'[i]?=some (some v)/\Rep K g H 0 d v nop)):∃ P',Rel K g H Γ' m σ' P'/\∀ a,P' a->P a:=by
 obtain ⟨zd,F,h1,h4⟩:=h
 let C:Nat->Prop:=fun i=>∃ o,Γ'[i]?=some (some o)/\Γ[i]?=some (some o)/\σ'[i]?=σ[i]?
 refine ⟨fun a=>∃ i,C i/\F i a,⟨zd,fun i a=>C i/\F i a,⟨by rw [hl];exact h1.l1,by rw [hs,hl];exact h1.l2,fun i o e=>?_,fun i e a q=>q.1.elim fun o z=>e o z.1,fun i j n a q z=>h1.dj i j n a q.2 z.2⟩,fun _=>Iff.rfl⟩,fun a ⟨i,_,q⟩=>(h4 a).mpr ⟨i,q⟩⟩
 by_cases c:C i
 ·obtain ⟨o',e1,e2,e3⟩:=c;rw [e] at e1;cases e1;obtain ⟨d,v,e4,e5,r⟩:=h1.rep i o e2;have eq:(fun a=>C i/\F i a)=F i:=funext fun a=>propext ⟨fun z=>z.2,fun z=>⟨⟨o,e,e2,e3⟩,z⟩⟩
  exact ⟨d,v,e4,by rw [e3];exact e5,by show Rep K g H o d v fun a=>C i/\F i a;rw [eq];exact r⟩
 ·have eq:(fun a=>C i/\F i a)=nop:=nop_iff fun a z=>c z.1
  rcases k i o e with z | ⟨rfl,d,v,e1,e2,r⟩
  ·exact (c ⟨o,e,z⟩).elim
  ·exact ⟨d,v,e1,e2,by show Rep K g H 0 d v fun a=>C i/\F i a;rw [eq];exact r⟩
end
def LY (js:List Nat) (Γ:Gm):Gm:=(List.range Γ.length).map fun i=>if js.contains i then none else Γ.getD i none
def KQ (js:List Nat) (Γ1 Γ:Gm):Gm:=(List.range Γ.length).map fun i=>if js.contains i then (if Γ1.getD i none == some 0 then some 0 else none) else Γ.getD i none
theorem Dh {α:Type} {n i:Nat} {f:Nat->α} {x:α} (h:((List.range n).map f)[i]?=some x):i < n/\x=f i:=by
 rw [List.getElem?_map] at h
 by_cases z:i < n
 ·rw [List.getElem?_range z] at h;exact ⟨z,(Option.some.inj h).symm⟩
 ·rw [List.getElem?_eq_none_iff.mpr (by simpa using z)] at h;cases h
theorem Bg {Γ:Gm} {i o:Nat} (h:Γ.getD i none=some o):Γ[i]?=some (some o):=by
 rw [List.getD_eq_getElem?_getD] at h;cases e:Γ[i]? with
 | none=>rw [e] at h;cases h
 | some x=>rw [e] at h;exact congrArg some h
theorem DF {js:List Nat} {Γ:Gm} {i o:Nat} (h:(LY js Γ)[i]?=some (some o)):i∉js/\Γ[i]?=some (some o):=by
 obtain ⟨_,e⟩:=Dh h;split at e
 ·cases e
 ·rename_i z;exact ⟨fun q=>z (List.contains_iff_mem.mpr q),Bg e.symm⟩
theorem IV (js:List Nat):∀ (σ:St) (i:Nat),i∉js->(L2.blank js σ)[i]?=σ[i]?:=by
 induction js with
 | nil=>intro σ i _;rfl
 | cons j js ih =>
  intro σ i h;show (L2.blank js (σ.set j none))[i]?=_;rw [ih _ i fun z=>h (List.mem_cons_of_mem _ z),List.getElem?_set_ne fun z=>h (by rw [<- z];exact List.mem_cons_self)]
theorem Ej {K:W.Frag} {Γ1 Γl Γt Γc Γf:Gm} {jx jt jc jf J:List Nat} {g:TG} {ft:Tg} {c:Ev Bool} {f:Ev Dv} (ht:Mt K Γl Γt jt g ft) (hbl:BQ Γl (LY jx Γ1)=true) (hwf:BQ Γl Γf=true) (hwc:BQ Γl Γc=true) (hsx:∀ i∈jt,i∈jx)
    (hJ:J=Aq Γl (jt++(jc++jf))) {ds:List Dv} (hz:ds.length<=1000000) {m1:M} {σ:St} {H1:Hp} {g1:G} {P1:Fp} {I:It} {R:Type} {k:Dv->M->Option R} {res:R} {Q:VK}
    (r1:Rel K g1 H1 Γ1 m1 σ P1) (yl:Yl K I ds g1 H1) (run:List Dv->Dw J->List Dv->Prop) (h0:run ds (AU J m1) []) (hn:∀ t ya,run [] t ya->k (.lst ya) (AW J m1 t)=some res)
    (hc:∀ d ds t ya,run (d::ds) t ya->∃ (B:Type) (kx:Dv->M->Option B) (kf:M->Option B) (r:B),ft B d (AW J m1 t) (fun m2=>c B m2 fun b m3=>if b=true then f B m3 kx else kf m3)=some r/\(∀ x m',kx x m'=some r->run ds (AU J m') (ya++[x]))/\∀ m',kf m'=some r->run ds (AU J m') ya)
    (q:∀ d m' g' P' Pv v H',k d m'=some res->BW (jt++(jc++jf)) m1 m'->Step g1 P1 H1 g' (fun a=>P' a\/Pv a) H'->Rep K g' H' 1 d v Pv->Rel K g' H' (KQ jx Γ1 Γl) m' σ P'->Disj P' Pv->Q v H') :
    ∃ W:Nat->Nat->List V->Hp->Prop,(∃ m,W 0 m [] H1)/\Mx jx g (tT K Γt Γc jc c) (tE K Γc 0 Γf jf f) I σ (fun ys H=>∀ p,H p=none->Q (.ref p) (upd H p (.lst ys))) W:=by
  have sub:∀ i∈J,i∈jt++(jc++jf):=fun i h=>Ap (hJ▸h)
  have nJ:∀ i∈J,i∉jx:=fun i h z=>by
    rw [hJ] at h;have:=(List.mem_filter.mp h).2;rw [Bool.and_eq_true] at this;cases e:Γl.getD i none with
    | none=>rw [e] at this;cases this.2
    | some o =>
      obtain ⟨o',e',_⟩:=Ea hbl (Bg e);exact (DF e').1 z
  have lb:(LY jx Γ1).length=Γ1.length:=by unfold LY;simp
  obtain ⟨Pb,rb,sb⟩:=r1.sub (Γ':=LY jx Γ1) (σ':=L2.blank jx σ) lb (L2.blank_length ..) fun i o e=>⟨(DF e).2,IV jx σ i (DF e).1⟩
  obtain ⟨g0,P0,s0,r0⟩:=rb.weaken hbl;have s10:Step g1 P1 H1 g0 P0 H1:=s0.sub sb fun _ z=>z
  refine ⟨fun i j ys H=>j=ds.length - i/\i<=ds.length/\ys.length<=i/\∃ g2 t P2 ya,Step g1 P1 H1 g2 P2 H/\Rel K g2 H Γl (AW J m1 t) (L2.blank jx σ) P2/\Reps K g2 H 0 ya ys nop/\run (ds.drop i) t ya,
    ⟨ds.length,by simp,Nat.zero_le _,Nat.zero_le _,g0,AU J m1,P0,[],s10,MW r0,Reps.nil,by simpa using h0⟩,?_⟩
  rintro i j ys H2 ⟨rfl,hi,hyl,g2,t,P2,ya,s2,r2,ry,e2⟩;have st:HM g1 H1 g2 H2:=⟨P1,P2,s2,r1.fpOk⟩
  by_cases hlt:i < ds.length
  · rw [List.drop_eq_getElem_cons hlt] at e2;obtain ⟨B,kx,kf,rB,e3,hx,hf⟩:=hc _ _ _ _ e2;obtain ⟨go,yy⟩:=(yl g2 H2 st).1 i ds[i] (List.getElem?_eq_getElem hlt);refine .inr ⟨go,Nat.lt_of_le_of_lt hyl (Nat.lt_of_lt_of_le hlt (Nat.le_trans hz (by decide))),fun zs H'=>zs.length<=i+1/\∃ g5 P5 m' za,Step g1 P1 H1 g5 P5 H'/\Rel K g5 H' Γl m' (L2.blank jx σ) P5/\BW (jt++(jc++jf)) m1 m'/\Reps K g5 H' 0 za zs nop/\run (ds.drop (i+1)) (AU J m') za,?_,fun y H3 hy=>?_⟩
    · rintro zs H' ⟨hl,g5,P5,m',za,s5,r5,ag,rz,hr⟩;exact ⟨ds.length - (i+1),by omega,rfl,hlt,hl,g5,AU J m',P5,za,s5,r5.join ag fun i o h=>hJ▸BH h,rz,hr⟩
    · obtain ⟨Pv,s3,h3,r3,n3⟩:=AV.go s2 r2 (yy y H3 hy);have ry3:Reps K g2 H3 0 ya ys nop:=ry.held (Step.same (P:=nop) (yy y H3 hy).1) FpOk.nop fun _ _ z=>z
      refine ht g2 _ P2 ds[i] y _ H3 B _ rB _ r3 h3.z e3 fun m2 P' σ' hk ag sp ip r'=>?_
      have s4:Step g1 P1 H1 g2 P' H3:=s3.less fun a z=>.inl (sp a z)
      have a4:BW (jt++(jc++jf)) m1 m2:=((AO J m1 t).mono sub).trans ag |>.mono fun i z=>(List.mem_append.mp z).elim id fun z=>List.mem_append_left _ z
      -- outside of the comprehension's own slots nothing is bound
      have back:∀ {g5:G} {P5:Fp} {m':M} {H':Hp},Rel K g5 H' Γl m' σ' P5->∃ P6,Rel K g5 H' Γl m' (L2.blank jx σ) P6/\∀ a,P6 a->P5 a:=fun {g5 P5 m' H'} r5=>r5.sub rfl (by rw [ip.1]) fun i o e=>⟨e,(ip.2 i fun z=>by
          obtain ⟨o',e',_⟩:=Ea hbl e;exact (DF e').1 (hsx i z)).symm⟩
      refine ⟨g2,m2,P',r',B,_,rB,hk,fun b m3 g4 P4 H4 hk4 ag4 s5 r4=>?_⟩;have ry4:=ry3.held s5 r'.fpOk fun _ z=>z.elim
      cases b with
      | false =>
        rw [if_neg Bool.false_ne_true] at hk4;show (if false=true then _ else _);rw [if_neg Bool.false_ne_true];obtain ⟨g6,P6,s6,r6⟩:=r4.weaken hwc;obtain ⟨P7,r7,sp7⟩:=back r6;exact ⟨by omega,g6,P7,m3,ya,((s4.trans s5).trans s6).less sp7,r7,(a4.trans ag4).mono fun i z=>(List.mem_append.mp z).elim id fun z=>List.mem_append_right _ (List.mem_append_left _ z),ry4.held s6 r4.fpOk fun _ z=>z.elim,hf m3 hk4⟩
      | true =>
        rw [if_pos rfl] at hk4;show (if true=true then _ else _);rw [if_pos rfl];refine ⟨g4,m3,P4,r4,B,kx,rB,hk4,fun x m4 g5 P5 Pv v H5 hk5 ag5 s6 rv r5 n5=>?_⟩;have ry5:=ry4.held s6 r4.fpOk fun _ z=>z.elim
        obtain ⟨g6,P6,s7,r6⟩:=r5.weaken hwf;obtain ⟨P7,r7,sp7⟩:=back r6;refine ⟨by rw [List.length_append,List.length_singleton];omega,g6,P7,m4,ya++[x],(((s4.trans s5).trans (s6.less fun _ z=>.inl z)).trans s7).less sp7,r7,?_,?_,hx x m4 hk5⟩
        · exact ((a4.trans ag4).trans ag5).mono fun i z=>(List.mem_append.mp z).elim (fun z=>(List.mem_append.mp z).elim id fun z=>List.mem_append_right _ (List.mem_append_left _ z)) fun z=>List.mem_append_right _ (List.mem_append_right _ z)
        · refine ((Reps.app ry5 (Reps.cons rv.z Reps.nil fun _ z=>z.elim) fun _ z=>z.elim).iff (Q:=nop) fun a=>⟨fun z=>z.elim,fun z=>z.elim id fun z=>z.elim id id⟩).held s7 r5.fpOk fun _ z=>z.elim
  · have ei:i=ds.length:=by omega
    subst ei;rw [List.drop_length] at e2;refine .inl ⟨(yl g2 H2 st).2 _ (Nat.le_refl _),fun p hp=>?_⟩;obtain ⟨Pv,s3,h1,r3,n3⟩:=AV.go s2 r2 (AV.lst r2.zd ry hp);have l1:Γl.length=Γ1.length:=(Do hbl).trans lb;obtain ⟨P4,r4,sp4⟩:=r3.more (Γ':=KQ jx Γ1 Γl) (σ':=σ) (by unfold KQ;simp) (by rw [L2.blank_length]) fun i o e=>by
      obtain ⟨hi,e⟩:=Dh e;split at e
      · rename_i z;split at e
        · rename_i z0;cases e;refine .inr ⟨rfl,?_⟩;obtain ⟨v,Px,ev,rx,_⟩:=r1.see (Bg (beq_iff_eq.mp z0));have ji:i∉J:=fun w=>nJ i w (List.contains_iff_mem.mp z)
          have hl:i < m1.length:=by rw [r1.len.1,<- l1];exact hi
          refine ⟨m1.at i,v,?_,ev,(rx.z.held s2 r1.fpOk fun _ z=>z.elim).held (Step.same (P:=nop) (ET hp (.lst ys))) FpOk.nop fun _ _ z=>z⟩;have:=(AO J m1 t).2 i ji;have hl':i < (AW J m1 t).length:=by rw [Gc];exact hl
          rw [List.getElem?_eq_getElem hl',<- this];unfold M.at;rw [List.getD_eq_getElem?_getD,List.getElem?_eq_getElem hl'];rfl
        · cases e
      · rename_i z;exact .inl ⟨Bg e.symm,(IV jx σ i fun w=>z (List.contains_iff_mem.mpr w)).symm⟩
    exact q _ _ g2 P4 Pv _ _ (hn t ya e2) ((AO J m1 t).mono sub) (s3.less fun a z=>z.elim (fun z=>.inl (sp4 a z)) .inr) h1 r4 fun a z w=>n3 a (sp4 a z) w
def SU (src:Ev (List Dv)) (tg:Tg) (f:Ev Dv):Ev Dv:=fun R m k=>src R m fun ds m1=>En ds ((BO (fun d=>tg Dv d m1 fun m2=>f Dv m2 fun x _=>some x) ds).bind fun xs=>k (.lst xs) m1)
def SV (src:Ev (List Dv)) (tg:Tg) (c:Ev Bool) (f:Ev Dv):Ev Dv:=fun R m k=>src R m fun ds m1=>En ds ((Ot (fun d=>tg (Option Dv) d m1 fun m2=>c (Option Dv) m2 fun b m3=>if b=true then f (Option Dv) m3 fun x _=>some (some x) else some none) ds).bind fun xs=>k (.lst xs) m1)
def Nn (src:Ev (List Dv)) (tg:Tg) (J:List Nat) (f:Ev Dv):Ev Dv:=fun R m k=>src R m fun ds m1=>En ds ((CV (fun d t=>tg (Dv×Dw J) d (AW J m1 t) fun m2=>f (Dv×Dw J) m2 fun x m3=>some (x,AU J m3)) ds (AU J m1)).bind fun p=>k (.lst p.1) (AW J m1 p.2))
def Nm (src:Ev (List Dv)) (tg:Tg) (J:List Nat) (c:Ev Bool) (f:Ev Dv):Ev Dv:=fun R m k=>src R m fun ds m1=>En ds ((Nu (fun d t=>tg (Option Dv×Dw J) d (AW J m1 t) fun m2=>c (Option Dv×Dw J) m2 fun b m3=>if b=true then f (Option Dv×Dw J) m3 fun x m4=>some (some x,AU J m4) else some (none,AU J m3)) ds (AU J m1)).bind fun p=>k (.lst p.1) (AW J m1 p.2))
def DX:Ev Bool:=fun _ m k=>k true m
section
variable {K:W.Frag} {Γ Γ1 Γl Γt Γc Γf:Gm} {js jx jt jc jf J:List Nat} {g:TG} {ft:Tg} {c:Ev Bool} {f:Ev Dv} {src:Ev (List Dv)} {σ:St} {H:Hp} {Q:VK}
theorem Ks (ht:Mt K Γl Γt jt g ft) (hbl:BQ Γl (LY jx Γ1)=true) (hwf:BQ Γl Γf=true) (hwc:BQ Γl Γt=true) (hsx:∀ i∈jt,i∈jx) (hJ:([]:List Nat)=Aq Γl (jt++([]++jf)))
    (h:tE K Γ 1 (KQ jx Γ1 Γl) (js++(jt++([]++jf))) (SU src ft f) σ H Q):Er (tI K Γ Γ1 js src) jx g (tT K Γt Γt [] DX) (tE K Γt 0 Γf jf f) σ H Q:=by
  obtain ⟨g0,m,P,r,R,k,res,e,q⟩:=h;refine ⟨g0,m,P,r,R,_,res,e,fun ds m1 g1 P1 H1 I hk ag s r1 yl=>?_⟩;obtain ⟨hz,hk⟩:=Ef hk;obtain ⟨xs,e1,e2⟩:=bind_some' hk;refine Ej (c:=DX) ht hbl hwf hwc hsx hJ hz r1 yl (fun ds _ ya=>∃ yb,xs=ya++yb/\BO _ ds=some yb) ⟨xs,rfl,e1⟩ (fun t ya ⟨yb,h1,h2⟩=>?_) (fun d ds t ya ⟨yb,h1,h2⟩=>?_) fun d m' g' P' Pv v H' hk ag' s'=>q d m' g' P' Pv v H' hk (ag.trans ag') (s.trans s')
  · cases h2;rw [List.append_nil] at h1;subst h1;exact e2
  · obtain ⟨x,h3,h4⟩:=bind_some' h2;obtain ⟨yc,h5,h6⟩:=bind_some' h4;cases h6;exact ⟨Dv,fun x _=>some x,fun _=>none,x,h3,(fun y m' hk=>by cases hk;exact ⟨yc,by rw [h1,List.append_assoc];rfl,h5⟩),fun m' hk=>by cases hk⟩
theorem Ku (ht:Mt K Γl Γt jt g ft) (hbl:BQ Γl (LY jx Γ1)=true) (hwf:BQ Γl Γf=true) (hwc:BQ Γl Γc=true) (hsx:∀ i∈jt,i∈jx) (hJ:([]:List Nat)=Aq Γl (jt++(jc++jf)))
    (h:tE K Γ 1 (KQ jx Γ1 Γl) (js++(jt++(jc++jf))) (SV src ft c f) σ H Q):Er (tI K Γ Γ1 js src) jx g (tT K Γt Γc jc c) (tE K Γc 0 Γf jf f) σ H Q:=by
  obtain ⟨g0,m,P,r,R,k,res,e,q⟩:=h;refine ⟨g0,m,P,r,R,_,res,e,fun ds m1 g1 P1 H1 I hk ag s r1 yl=>?_⟩;obtain ⟨hz,hk⟩:=Ef hk;obtain ⟨xs,e1,e2⟩:=bind_some' hk;refine Ej ht hbl hwf hwc hsx hJ hz r1 yl (fun ds _ ya=>∃ yb,xs=ya++yb/\Ot _ ds=some yb) ⟨xs,rfl,e1⟩ (fun t ya ⟨yb,h1,h2⟩=>?_) (fun d ds t ya ⟨yb,h1,h2⟩=>?_) fun d m' g' P' Pv v H' hk ag' s'=>q d m' g' P' Pv v H' hk (ag.trans ag') (s.trans s')
  · cases h2;rw [List.append_nil] at h1;subst h1;exact e2
  · obtain ⟨x,h3,h4⟩:=bind_some' h2;obtain ⟨yc,h5,h6⟩:=bind_some' h4;cases h6;refine ⟨Option Dv,fun x _=>some (some x),fun _=>some none,x,h3,(fun y m' hk=>?_),fun m' hk=>?_⟩
    · cases hk;exact ⟨yc,by rw [h1,List.append_assoc];rfl,h5⟩
    · cases hk;exact ⟨yc,h1,h5⟩
theorem IS (ht:Mt K Γl Γt jt g ft) (hbl:BQ Γl (LY jx Γ1)=true) (hwf:BQ Γl Γf=true) (hwc:BQ Γl Γt=true) (hsx:∀ i∈jt,i∈jx) (hJ:J=Aq Γl (jt++([]++jf)))
    (h:tE K Γ 1 (KQ jx Γ1 Γl) (js++(jt++([]++jf))) (Nn src ft J f) σ H Q):Er (tI K Γ Γ1 js src) jx g (tT K Γt Γt [] DX) (tE K Γt 0 Γf jf f) σ H Q:=by
  obtain ⟨g0,m,P,r,R,k,res,e,q⟩:=h;refine ⟨g0,m,P,r,R,_,res,e,fun ds m1 g1 P1 H1 I hk ag s r1 yl=>?_⟩;obtain ⟨hz,hk⟩:=Ef hk;obtain ⟨p,e1,e2⟩:=bind_some' hk;refine Ej (c:=DX) ht hbl hwf hwc hsx hJ hz r1 yl (fun ds t ya=>∃ yb,p.1=ya++yb/\CV _ ds t=some (yb,p.2)) ⟨p.1,rfl,e1⟩ (fun t ya ⟨yb,h1,h2⟩=>?_) (fun d ds t ya ⟨yb,h1,h2⟩=>?_) fun d m' g' P' Pv v H' hk ag' s'=>q d m' g' P' Pv v H' hk (ag.trans ag') (s.trans s')
  · simp only [CV,Option.some.injEq,Prod.mk.injEq] at h2;obtain ⟨rfl,rfl⟩:=h2;rw [List.append_nil] at h1;rw [<- h1];exact e2
  · obtain ⟨x,h3,h4⟩:=bind_some' h2;obtain ⟨yc,h5,h6⟩:=bind_some' h4;simp only [Option.some.injEq,Prod.mk.injEq] at h6;obtain ⟨rfl,h7⟩:=h6;refine ⟨_,fun x m3=>some (x,AU J m3),fun _=>none,x,h3,(fun y m' hk=>?_),fun m' hk=>by cases hk⟩;cases hk;exact ⟨yc.1,by rw [h1,List.append_assoc];rfl,by rw [<- h7];exact h5⟩
theorem IR (ht:Mt K Γl Γt jt g ft) (hbl:BQ Γl (LY jx Γ1)=true) (hwf:BQ Γl Γf=true) (hwc:BQ Γl Γc=true) (hsx:∀ i∈jt,i∈jx) (hJ:J=Aq Γl (jt++(jc++jf)))
    (h:tE K Γ 1 (KQ jx Γ1 Γl) (js++(jt++(jc++jf))) (Nm src ft J c f) σ H Q):Er (tI K Γ Γ1 js src) jx g (tT K Γt Γc jc c) (tE K Γc 0 Γf jf f) σ H Q:=by
  obtain ⟨g0,m,P,r,R,k,res,e,q⟩:=h;refine ⟨g0,m,P,r,R,_,res,e,fun ds m1 g1 P1 H1 I hk ag s r1 yl=>?_⟩;obtain ⟨hz,hk⟩:=Ef hk;obtain ⟨p,e1,e2⟩:=bind_some' hk;refine Ej ht hbl hwf hwc hsx hJ hz r1 yl (fun ds t ya=>∃ yb,p.1=ya++yb/\Nu _ ds t=some (yb,p.2)) ⟨p.1,rfl,e1⟩ (fun t ya ⟨yb,h1,h2⟩=>?_) (fun d ds t ya ⟨yb,h1,h2⟩=>?_) fun d m' g' P' Pv v H' hk ag' s'=>q d m' g' P' Pv v H' hk (ag.trans ag') (s.trans s')
  · simp only [Nu,Option.some.injEq,Prod.mk.injEq] at h2;obtain ⟨rfl,rfl⟩:=h2;rw [List.append_nil] at h1;rw [<- h1];exact e2
  · obtain ⟨x,h3,h4⟩:=bind_some' h2;obtain ⟨yc,h5,h6⟩:=bind_some' h4;simp only [Option.some.injEq,Prod.mk.injEq] at h6;obtain ⟨rfl,h7⟩:=h6;refine ⟨_,fun x m4=>some (some x,AU J m4),fun m3=>some (none,AU J m3),x,h3,(fun y m' hk=>?_),fun m' hk=>?_⟩
    · cases hk;exact ⟨yc.1,by rw [h1,List.append_assoc];rfl,by rw [<- h7];exact h5⟩
    · cases hk;exact ⟨yc.1,h1,by rw [<- h7];exact h5⟩
end
end R
namespace L2
open PySem PySem.Spec PyProof.Rows
theorem Av {a b:Nat} (h:a≠b):@Ne Addr a b:=h
def Cm (h:Heap) (it l:Addr) (i:Nat):Bool->Prop
 | false=>h.IsListIter it l i
 | true=>h.IsTupleIter it l i
def CY (h:Heap) (l:Addr) (xs:Array Value):Bool->Prop
 | false=>h.IsList l xs
 | true=>h.IsTuple l xs
noncomputable def Gn (l:Addr):Bool->Obj
 | false=>{ cls:=.type "list_iterator", data:=.fields #[.ref l,.int 0 0] }
 | true=>{ cls:=.type "tuple_iterator", data:=.fields #[.ref l,.int 0 0] }
theorem Cm.at {h h':Heap} {it l:Addr} {i:Nat} {b:Bool} (x:Cm h it l i b) (k:∀ o,h.get? it=some o->h'.get? it=some o):Cm h' it l i b:=by
 cases b with
 | false=>obtain ⟨o,e,r⟩:=x;exact ⟨o,k o e,r⟩
 | true=>obtain ⟨o,e,r⟩:=x;exact ⟨o,k o e,r⟩
theorem CY.at {h h':Heap} {l:Addr} {xs:Array Value} {b:Bool} (x:CY h l xs b) (k:∀ o,h.get? l=some o->h'.get? l=some o):CY h' l xs b:=by
 cases b with
 | false=>obtain ⟨o,e,r⟩:=x;exact ⟨o,k o e,r⟩
 | true=>obtain ⟨o,e,r⟩:=x;exact ⟨o,k o e,r⟩
theorem Cm.obj {h:Heap} {it l:Addr} {i:Nat} {b:Bool} (x:Cm h it l i b):∃ o,h.get? it=some o/\∀ v,o.data≠.cell v:=by
 cases b with
 | false=>obtain ⟨o,e,c,d⟩:=x;exact ⟨o,e,fun v z=>by rw [d] at z;cases z⟩
 | true=>obtain ⟨o,e,c,d⟩:=x;exact ⟨o,e,fun v z=>by rw [d] at z;cases z⟩
theorem Cm.new {h:Heap} {l:Addr} {b:Bool}:Cm (h.push (Gn l b)) h.objs.size l 0 b:=by
 cases b with
 | false=>exact ⟨_,Heap.get?_push_size _ rfl,rfl,rfl⟩
 | true=>exact ⟨_,Heap.get?_push_size _ rfl,rfl,rfl⟩
section
variable {prog:Program} {w:World} {A:Around} {E:Value->Shared->Prop} {s:Shared}
theorem Co {l:Addr} {xs:Array Value} {b:Bool} {Q:Value->Shared->Prop} (hl:CY s.heap l xs b) (hQ:Q (.ref s.heap.objs.size) { s with heap:=s.heap.push (Gn l b) }):wpAny (model prog w) A (pyIter (.ref l)) Q E s:=by
 cases b with
 | false=>exact wpAny_pyIter_list hl hQ
 | true=>exact wpAny_pyIter_tuple hl hQ
theorem Bu {it l:Addr} {i:Nat} {items:Array Value} {x:Value} {b:Bool} {Q:Value->Shared->Prop} (hit:Cm s.heap it l i b) (hl:CY s.heap l items b) (hx:items[i]?=some x)
    (hQ:∀ h',Cm h' it l (i+1) b->Heap.SameBut it s.heap h'->Q x { s with heap:=h' }):wpAny (model prog w) A (Builtin.SmallTypes.nextOf (.ref it)) Q E s:=by
  cases b with
  | false=>exact wpAny_nextOf_list_item hit hl hx hQ
  | true =>
    obtain ⟨o,ho,hc,hd⟩:=id hit;obtain ⟨ol,hol,_,nl,hdl⟩:=hl
    have ht:s.TypeIs (.ref it) "tuple_iterator" := ⟨o,ho,hc⟩
    unfold Builtin.SmallTypes.nextOf
    refine wpAny_bind (wpAny_callSpecial?_slot (name:=Str.ofString "__next__") ht F.slot_tuple_iterator_next
      (wpAny_call_entry F.slot_tuple_iterator_next ht F.entry_tuple_iterator_next ?_ (F.args_tuple_iterator_next_1 _)))
    show wpAny _ _ (field (.ref it) 0 >>= _) _ _ s;refine wpAny_bind (wpAny_field ho hd (x:=.ref l) rfl ?_);show wpAny _ _ (if (Value.ref l == Value.none)=true then _ else _) _ _ s;rw [if_neg (show ¬ ((Value.ref l == Value.none)=true) from Bool.false_ne_true)];show wpAny _ _ (field (.ref it) 1 >>= _) _ _ s;refine wpAny_bind (wpAny_field ho hd (x:=.int i 0) rfl ?_);show wpAny _ _ (seqItems? (.ref l) >>= _) _ _ s;refine wpAny_bind (wpAny_seqItems hol hdl ?_);simp only [Int.toNat_natCast,hx];refine wpAny_bind (wpAny_setField ho hd (by simp) (wpAny_pure ⟨x,rfl,wpAny_pure (hQ _ ?_ (Heap.SameBut.update ..))⟩));exact ⟨_,Heap.get?_update_self _ ho (Obj.isFreed_of_fields (Obj.data_mapFields hd _)),(Obj.cls_mapFields ..).trans hc,by
      rw [Obj.data_mapFields hd];simp [rawInt]⟩
theorem Ew {it l:Addr} {i:Nat} {items:Array Value} {b:Bool} {Q:Value->Shared->Prop} (hh:A.handled=none) (hit:Cm s.heap it l i b) (hl:CY s.heap l items b) (hx:items[i]?=none)
    (hE:∀ h' e,Heap.ExtBut it s.heap h'->(∃ o,h'.get? e=some o/\o.cls=.type "StopIteration")->E (.ref e) { s with heap:=h' }):wpAny (model prog w) A (Builtin.SmallTypes.nextOf (.ref it)) Q E s:=by
  cases b with
  | false=>exact wpAny_nextOf_list_end hh hit hl hx hE
  | true =>
    obtain ⟨o,ho,hc,hd⟩:=id hit;obtain ⟨ol,hol,_,nl,hdl⟩:=hl
    have ht:s.TypeIs (.ref it) "tuple_iterator" := ⟨o,ho,hc⟩
    unfold Builtin.SmallTypes.nextOf
    refine wpAny_bind (wpAny_callSpecial?_slot (name:=Str.ofString "__next__") ht F.slot_tuple_iterator_next
      (wpAny_call_entry F.slot_tuple_iterator_next ht F.entry_tuple_iterator_next ?_ (F.args_tuple_iterator_next_1 _)))
    show wpAny _ _ (field (.ref it) 0 >>= _) _ _ s;refine wpAny_bind (wpAny_field ho hd (x:=.ref l) rfl ?_);show wpAny _ _ (if (Value.ref l == Value.none)=true then _ else _) _ _ s;rw [if_neg (show ¬ ((Value.ref l == Value.none)=true) from Bool.false_ne_true)];show wpAny _ _ (field (.ref it) 1 >>= _) _ _ s;refine wpAny_bind (wpAny_field ho hd (x:=.int i 0) rfl ?_);show wpAny _ _ (seqItems? (.ref l) >>= _) _ _ s;refine wpAny_bind (wpAny_seqItems hol hdl ?_);simp only [Int.toNat_natCast,hx];refine wpAny_bind (wpAny_rule (wpAny_bind (wpAny_setField ho hd (by simp) ?_)))
    show wpAny _ _ (newExc (.type "StopIteration") [] >>= _) _ _ _
    refine wpAny_bind ?_;simp only [newExc,newTuple];refine wpAny_bind (wpAny_newObj_type ?_ (by size_fits));refine wpAny_bind (m:=firstArgMember _ _) (wpAny_of_eq (a:=Value.none) (by first | rfl | (simp only [firstArgMember];rfl)) ?_);refine wpAny_newObj_type ?_ (by size_fits);simp only [raiseNew];refine wpAny_bind (wpAny_handled ?_)
    first | rw [show A.in1.handled=none from hh] | rw [hh]
    refine wpAny_bind (wpAny_pure (wpAny_throw ?_));exact hE _ _ (((Heap.SameBut.update ..).extBut.push _).push _) ⟨_,Heap.get?_push_size _ rfl,rfl⟩
end
def DK (K:W.Frag) (H:Hp) (a:Addr) (xs:List V):Bool->Prop
 | false=>Bq K H a xs
 | true=>Ds K H a xs
section
variable {X:Cx} {pins:List (Addr×Obj)} {σ:St} {H:Hp} {s:Shared} {a:Addr} {xs ys:List V} {b:Bool}
theorem Inv.sqB (I:Inv X pins σ H s) (h:DK X.K H a xs b):∃ its:List Value,AD xs its/\CY s.heap a its.toArray b/\a < s.heap.objs.size:=by
 cases b with
 | false =>
  obtain ⟨its,r,p,_⟩:=I.list h;exact ⟨its,r,p.isList,by obtain ⟨o,n,e,_⟩:=p;exact Heap.lt_size e⟩
 | true =>
  obtain ⟨its,r,p,_⟩:=I.tuple h;exact ⟨its,r,p,by obtain ⟨o,e,_⟩:=p;exact Heap.lt_size e⟩
theorem Inv.sqB_inj (I:Inv X pins σ H s) (h:DK X.K H a xs b) (h':DK X.K H a ys b):xs=ys:=by
 cases b with
 | false=>exact I.list_inj h h'
 | true=>exact I.tuple_inj h h'
end
abbrev OE (h:Heap) (T:Addr) (v1 v2:Value):Prop:=h.get? T=some { cls:=.type "tuple", data:=.seq #[v1,v2] }
section
variable {prog:Program} {w:World} {A:Around} {E:Value->Shared->Prop} {s:Shared}
theorem QH {T:Addr} {v1 v2 x:Value} {Q:Unit->Shared->Prop} (hT:OE s.heap T v1 v2) (h:∀ h',OE h' T x v2->Heap.SameBut T s.heap h'->Q () { s with heap:=h' }):wpAny (model prog w) A (updateSeq T (·.setIfInBounds 0 x)) Q E s:=by
 refine wpAny_updateSeq hT rfl (h _ ?_ (Heap.SameBut.update ..));show Heap.get? _ _=_;rw [Heap.get?_update_self _ hT rfl];simp [Obj.mapSeq]
theorem YJ {T:Addr} {v1 v2 x:Value} {Q:Unit->Shared->Prop} (hT:OE s.heap T v1 v2) (h:∀ h',OE h' T v1 x->Heap.SameBut T s.heap h'->Q () { s with heap:=h' }):wpAny (model prog w) A (updateSeq T (·.setIfInBounds 1 x)) Q E s:=by
 refine wpAny_updateSeq hT rfl (h _ ?_ (Heap.SameBut.update ..));show Heap.get? _ _=_;rw [Heap.get?_update_self _ hT rfl];simp [Obj.mapSeq]
structure Zst2 (h:Heap) (I:Nat) (l1 l2:Nat) (b1 b2:Bool) (i:Nat) (f0:Value):Prop where
 z:IsZip h (I+4) (I+2) (I+3) f0
 ti:OE h (I+2) (.ref I) (.ref (I+1))
 to:∃ v1 v2,OE h (I+3) v1 v2
 s1:Cm h I l1 i b1
 s2:Cm h (I+1) l2 i b2
theorem Zst2.at {h h':Heap} {I l1 l2:Nat} {b1 b2:Bool} {i:Nat} {f0:Value} (x:Zst2 h I l1 l2 b1 b2 i f0) (k:∀ (c:Nat) o,I<=c->c < I+5->h.get? c=some o->h'.get? c=some o):Zst2 h' I l1 l2 b1 b2 i f0:=
 ⟨k _ _ (by omega) (by omega) x.z,k _ _ (by omega) (by omega) x.ti,let ⟨v1,v2,e⟩:=x.to;⟨v1,v2,k _ _ (by omega) (by omega) e⟩,x.s1.at fun o e=>k _ o (by omega) (by omega) e,x.s2.at fun o e=>k _ o (by omega) (by omega) e⟩
theorem OG {I l1 l2:Nat} {b1 b2:Bool} {i:Nat} {xs1 xs2:Array Value} {y1 y2:Value} {Q:Value->Shared->Prop} (hz:Zst2 s.heap I l1 l2 b1 b2 i .none) (hl1:CY s.heap l1 xs1 b1) (lt1:l1 < I) (hl2:CY s.heap l2 xs2 b2) (lt2:l2 < I) (hx1:xs1[i]?=some y1) (hx2:xs2[i]?=some y2)
    (hQ:∀ h',Zst2 h' I l1 l2 b1 b2 (i+1) (rawInt s.heap.objs.size)->OE h' s.heap.objs.size y1 y2->h'.objs.size=s.heap.objs.size+1->(∀ (c:Nat) o,(c < I\/I+5<=c)->s.heap.get? c=some o->h'.get? c=some o)->Q (.ref s.heap.objs.size) { s with heap:=h' }) :
    wpAny (model prog w) A (Builtin.«zip.__next__» ⟨[.ref (I+4)],[]⟩) (fun fin s'=>∃ v,fin=.done (.ret v)/\Q v s') E s:=by
  obtain ⟨z0,ti0,⟨v1,v2,to0⟩,s10,s20⟩:=hz;show wpAny _ _ (field (.ref (I+4)) 2 >>= _) _ _ _;refine wpAny_bind (wpAny_field z0 rfl (x:=.bool false) rfl ?_);show wpAny _ _ (field (.ref (I+4)) 3 >>= _) _ _ _;refine wpAny_bind (wpAny_field z0 rfl (x:=.ref (I+2)) rfl ?_);refine wpAny_bind (wpAny_seqItems ti0 rfl ?_);show wpAny _ _ (Builtin.SmallTypes.ownedTupleIsFree (.ref (I+4)) >>= _) _ _ _;refine wpAny_bind ?_;unfold Builtin.SmallTypes.ownedTupleIsFree;refine wpAny_bind (wpAny_field z0 rfl (x:=.none) rfl (wpAny_pure ?_));simp only [if_true];refine wpAny_bind (wpAny_rule ?_);refine wpAny_bind (wpAny_field z0 rfl (x:=.ref (I+3)) rfl ?_);refine wpAny_bind (wpAny_setField_rec z0 (by simp) fun h₁ hz₁ hs₁=>?_);replace hz₁:IsZip h₁ (I+4) (I+2) (I+3) .ellipsis:=hz₁;refine wpAny_bind ?_;simp only [List.zipIdx_cons,List.zipIdx_nil,List.forIn_cons,List.forIn_nil];have g0:∀ (c:Nat) o,c≠(I+4)->s.heap.get? c=some o->h₁.get? c=some o:=fun c o c1 e=>hs₁.extBut _ _ c1 e
  have k0:∀ (c:Nat) o,c≠(I+4)->c≠(I+3)->(c < I\/I<=c)->s.heap.get? c=some o->h₁.get? c=some o:=fun c o c1 _ _ e=>g0 c o c1 e
  have to1:OE h₁ (I+3) v1 v2:=g0 _ _ (by omega) to0;refine wpAny_bind (wpAny_bind (wpAny_onRaise ?_));show wpAny _ _ (Builtin.SmallTypes.nextOf (.ref I) >>= _) _ _ _;refine wpAny_bind (Bu (s10.at fun o e=>k0 _ o (by omega) (by omega) (by omega) e) (hl1.at fun o e=>k0 _ o (by omega) (by omega) (by omega) e) hx1 fun p1 si1 sp1=>wpAny_pure ?_);have u1:OE p1 (I+3) v1 v2:=sp1.extBut _ _ (Av (by omega)) to1;refine wpAny_bind (wpAny_seqItems u1 rfl ?_);refine wpAny_bind (QH u1 fun q1 to2 sq1=>?_);have k1:∀ (c:Nat) o,c≠(I+4)->c≠(I+3)->(c < I\/I+1<=c)->s.heap.get? c=some o->q1.get? c=some o:=fun c o c1 c2 c3 e=>sq1.extBut _ _ c2 (sp1.extBut _ _ (Av (by omega)) (k0 c o c1 c2 (by omega) e))
  have zz1:IsZip q1 (I+4) (I+2) (I+3) .ellipsis:=sq1.extBut _ _ (Av (by omega)) (sp1.extBut _ _ (Av (by omega)) hz₁);have w1_1:Cm q1 I l1 (i+1) b1:=si1.at fun o e=>sq1.extBut _ _ (Av (by omega)) e
  refine wpAny_bind (wpAny_letGo (wpAny_pure ?_));refine wpAny_bind (wpAny_bind (wpAny_onRaise ?_));show wpAny _ _ (Builtin.SmallTypes.nextOf (.ref (I+1)) >>= _) _ _ _;refine wpAny_bind (Bu (s20.at fun o e=>k1 _ o (by omega) (by omega) (by omega) e) (hl2.at fun o e=>k1 _ o (by omega) (by omega) (by omega) e) hx2 fun p2 si2 sp2=>wpAny_pure ?_);have u2:OE p2 (I+3) y1 v2:=sp2.extBut _ _ (Av (by omega)) to2;refine wpAny_bind (wpAny_seqItems u2 rfl ?_);refine wpAny_bind (YJ u2 fun q2 to3 sq2=>?_);have k2:∀ (c:Nat) o,c≠(I+4)->c≠(I+3)->(c < I\/I+2<=c)->s.heap.get? c=some o->q2.get? c=some o:=fun c o c1 c2 c3 e=>sq2.extBut _ _ c2 (sp2.extBut _ _ (Av (by omega)) (k1 c o c1 c2 (by omega) e))
  have zz2:IsZip q2 (I+4) (I+2) (I+3) .ellipsis:=sq2.extBut _ _ (Av (by omega)) (sp2.extBut _ _ (Av (by omega)) zz1);have w2_2:Cm q2 (I+1) l2 (i+1) b2:=si2.at fun o e=>sq2.extBut _ _ (Av (by omega)) e
  have w1_2:Cm q2 I l1 (i+1) b1:=w1_1.at fun o e=>sq2.extBut _ _ (Av (by omega)) (sp2.extBut _ _ (Av (by omega)) e)
  refine wpAny_bind (wpAny_letGo (wpAny_pure (wpAny_pure ?_)));refine wpAny_bind (wpAny_seqItems to3 rfl ?_);refine wpAny_bind (wpAny_newTuple ?_);have hsz:q2.objs.size=s.heap.objs.size:=by rw [sq2.1,sp2.1,sq1.1,sp1.1,hs₁.1]
  have zlt:(I+4) < q2.objs.size:=Heap.lt_size zz2;show wpAny _ _ (Builtin.SmallTypes.ownedTupleHandOut (.ref (I+4)) (.ref q2.objs.size) >>= _) _ _ _;refine wpAny_bind ?_;unfold Builtin.SmallTypes.ownedTupleHandOut
  have z6:IsZip (q2.push { cls:=.type "tuple", data:=.seq #[y1,y2] }) (I+4) (I+2) (I+3) .ellipsis:=Heap.get?_push_of_some _ zz2
  refine wpAny_bind (wpAny_setField_rec z6 (by simp) fun h₇ hz₇ hs₇=>?_);replace hz₇:IsZip h₇ (I+4) (I+2) (I+3) (rawInt q2.objs.size):=hz₇;refine wpAny_setField_rec hz₇ (by simp) fun h₈ hz₈ hs₈=>?_
  replace hz₈:IsZip h₈ (I+4) (I+2) (I+3) (rawInt q2.objs.size):=hz₈;have up:∀ (c:Nat) o,c≠(I+4)->q2.get? c=some o->h₈.get? c=some o:=fun c o c1 e=>hs₈.extBut _ _ c1 (hs₇.extBut _ _ c1 (Heap.get?_push_of_some _ e))
  have hT₈:OE h₈ q2.objs.size y1 y2:=hs₈.extBut _ _ (Av (by omega)) (hs₇.extBut _ _ (Av (by omega)) (Heap.get?_push_size _ rfl));have hz8:h₈.objs.size=q2.objs.size+1:=by rw [hs₈.1,hs₇.1,Heap.size_push]
  rw [hsz] at hz₈ hT₈ hz8;refine wpAny_pure ⟨_,rfl,?_⟩;show Q (.ref q2.objs.size) _;rw [hsz];exact hQ h₈ ⟨hz₈,up _ _ (by omega) (k2 _ _ (by omega) (by omega) (by omega) ti0),⟨y1,y2,up _ _ (by omega) to3⟩,w1_2.at fun o e=>up _ o (by omega) e,w2_2.at fun o e=>up _ o (by omega) e⟩ hT₈ hz8 fun c o hc e=>up c o (by omega) (k2 c o (by omega) (by omega) (by omega) e)
theorem QC {I l1 l2:Nat} {b1 b2:Bool} {i:Nat} {xs1 xs2:Array Value} {Q:Fin->Shared->Prop} (hh:A.handled=none) (hz:Zst2 s.heap I l1 l2 b1 b2 i .none) (hl1:CY s.heap l1 xs1 b1) (lt1:l1 < I) (hl2:CY s.heap l2 xs2 b2) (lt2:l2 < I) (hend:xs1[i]?=none\/xs2[i]?=none)
    (hE:∀ h' e,(∀ (c:Nat) o,(c < I\/I+5<=c)->s.heap.get? c=some o->h'.get? c=some o)->(∃ o,h'.get? e=some o/\o.cls=.type "StopIteration")->E (.ref e) { s with heap:=h' }) :
    wpAny (model prog w) A (Builtin.«zip.__next__» ⟨[.ref (I+4)],[]⟩) Q E s:=by
  obtain ⟨z0,ti0,⟨v1,v2,to0⟩,s10,s20⟩:=hz;show wpAny _ _ (field (.ref (I+4)) 2 >>= _) _ _ _;refine wpAny_bind (wpAny_field z0 rfl (x:=.bool false) rfl ?_);show wpAny _ _ (field (.ref (I+4)) 3 >>= _) _ _ _;refine wpAny_bind (wpAny_field z0 rfl (x:=.ref (I+2)) rfl ?_);refine wpAny_bind (wpAny_seqItems ti0 rfl ?_);show wpAny _ _ (Builtin.SmallTypes.ownedTupleIsFree (.ref (I+4)) >>= _) _ _ _;refine wpAny_bind ?_;unfold Builtin.SmallTypes.ownedTupleIsFree;refine wpAny_bind (wpAny_field z0 rfl (x:=.none) rfl (wpAny_pure ?_));simp only [if_true];refine wpAny_bind (wpAny_rule ?_);refine wpAny_bind (wpAny_field z0 rfl (x:=.ref (I+3)) rfl ?_);refine wpAny_bind (wpAny_setField_rec z0 (by simp) fun h₁ hz₁ hs₁=>?_);replace hz₁:IsZip h₁ (I+4) (I+2) (I+3) .ellipsis:=hz₁;refine wpAny_bind ?_;simp only [List.zipIdx_cons,List.zipIdx_nil,List.forIn_cons,List.forIn_nil];have g0:∀ (c:Nat) o,c≠(I+4)->s.heap.get? c=some o->h₁.get? c=some o:=fun c o c1 e=>hs₁.extBut _ _ c1 e
  have k0:∀ (c:Nat) o,c≠(I+4)->c≠(I+3)->(c < I\/I<=c)->s.heap.get? c=some o->h₁.get? c=some o:=fun c o c1 _ _ e=>g0 c o c1 e
  have to1:OE h₁ (I+3) v1 v2:=g0 _ _ (by omega) to0;have zz0:IsZip h₁ (I+4) (I+2) (I+3) .ellipsis:=hz₁;refine wpAny_bind (wpAny_bind (wpAny_onRaise ?_));show wpAny _ _ (Builtin.SmallTypes.nextOf (.ref I) >>= _) _ _ _;cases hx1:xs1[i]? with
  | none =>
    refine wpAny_bind (Ew hh (s10.at fun o e=>k0 _ o (by omega) (by omega) (by omega) e) (hl1.at fun o e=>k0 _ o (by omega) (by omega) (by omega) e) hx1 fun h₂ e hs₂ he=>?_);obtain ⟨oe,hoe,hce⟩:=he;have hz₂:IsZip h₂ (I+4) (I+2) (I+3) .ellipsis:=hs₂ _ _ (Av (by omega)) zz0;have hez:e≠(I+4):=fun x=>by subst x;rw [hz₂] at hoe;cases hoe;simp at hce
    exact wpAny_setField_rec hz₂ (by simp) fun h₃ _ hs₃=>hE h₃ e (fun c o hc x=>hs₃.extBut _ _ (Av (by omega)) (hs₂ _ _ (Av (by omega)) (k0 c o (by omega) (by omega) (by omega) x))) ⟨oe,hs₃.extBut _ _ hez hoe,hce⟩
  | some y1 =>
    refine wpAny_bind (Bu (s10.at fun o e=>k0 _ o (by omega) (by omega) (by omega) e) (hl1.at fun o e=>k0 _ o (by omega) (by omega) (by omega) e) hx1 fun p1 si1 sp1=>wpAny_pure ?_);have u1:OE p1 (I+3) v1 v2:=sp1.extBut _ _ (Av (by omega)) to1;refine wpAny_bind (wpAny_seqItems u1 rfl ?_);refine wpAny_bind (QH u1 fun q1 to2 sq1=>?_);have k1:∀ (c:Nat) o,c≠(I+4)->c≠(I+3)->(c < I\/I+1<=c)->s.heap.get? c=some o->q1.get? c=some o:=fun c o c1 c2 c3 e=>sq1.extBut _ _ c2 (sp1.extBut _ _ (Av (by omega)) (k0 c o c1 c2 (by omega) e))
    have zz1:IsZip q1 (I+4) (I+2) (I+3) .ellipsis:=sq1.extBut _ _ (Av (by omega)) (sp1.extBut _ _ (Av (by omega)) zz0);refine wpAny_bind (wpAny_letGo (wpAny_pure ?_));refine wpAny_bind (wpAny_bind (wpAny_onRaise ?_));show wpAny _ _ (Builtin.SmallTypes.nextOf (.ref (I+1)) >>= _) _ _ _;cases hx2:xs2[i]? with
    | none =>
      refine wpAny_bind (Ew hh (s20.at fun o e=>k1 _ o (by omega) (by omega) (by omega) e) (hl2.at fun o e=>k1 _ o (by omega) (by omega) (by omega) e) hx2 fun h₂ e hs₂ he=>?_);obtain ⟨oe,hoe,hce⟩:=he;have hz₂:IsZip h₂ (I+4) (I+2) (I+3) .ellipsis:=hs₂ _ _ (Av (by omega)) zz1;have hez:e≠(I+4):=fun x=>by subst x;rw [hz₂] at hoe;cases hoe;simp at hce
      exact wpAny_setField_rec hz₂ (by simp) fun h₃ _ hs₃=>hE h₃ e (fun c o hc x=>hs₃.extBut _ _ (Av (by omega)) (hs₂ _ _ (Av (by omega)) (k1 c o (by omega) (by omega) (by omega) x))) ⟨oe,hs₃.extBut _ _ hez hoe,hce⟩
    | some y2 =>
      simp [hx1,hx2] at hend
theorem FH {I l1 l2:Nat} {b1 b2:Bool} {i:Nat} {xs1 xs2:Array Value} {y1 y2:Value} {Q:Option Value->Shared->Prop} (hz:Zst2 s.heap I l1 l2 b1 b2 i .none) (hl1:CY s.heap l1 xs1 b1) (lt1:l1 < I) (hl2:CY s.heap l2 xs2 b2) (lt2:l2 < I) (hx1:xs1[i]?=some y1) (hx2:xs2[i]?=some y2)
    (hQ:∀ h',Zst2 h' I l1 l2 b1 b2 (i+1) (rawInt s.heap.objs.size)->OE h' s.heap.objs.size y1 y2->h'.objs.size=s.heap.objs.size+1->(∀ (c:Nat) o,(c < I\/I+5<=c)->s.heap.get? c=some o->h'.get? c=some o)->Q (some (.ref s.heap.objs.size)) { s with heap:=h' }) :
    wpAny (model prog w) A (pyNext (.ref (I+4))) Q E s:=by
  have hT:s.TypeIs (.ref (I+4)) "zip" := ⟨_,hz.z,rfl⟩
  unfold pyNext
  exact wpAny_bind (wpAny_attempt (wpAny_callSpecial?_slot (name:=Str.ofString "__next__") hT F.slot_zip_next
    (wpAny_call_entry F.slot_zip_next hT F.entry_zip_next (OG hz hl1 lt1 hl2 lt2 hx1 hx2 fun h' a1 a2 a3 a4=>wpAny_pure (hQ h' a1 a2 a3 a4)) (F.args_zip_next_1 _))))
theorem Fe {I l1 l2:Nat} {b1 b2:Bool} {i:Nat} {xs1 xs2:Array Value} {Q:Option Value->Shared->Prop} (hh:A.handled=none) (hz:Zst2 s.heap I l1 l2 b1 b2 i .none) (hl1:CY s.heap l1 xs1 b1) (lt1:l1 < I) (hl2:CY s.heap l2 xs2 b2) (lt2:l2 < I) (hend:xs1[i]?=none\/xs2[i]?=none)
    (hQ:∀ h',(∀ (c:Nat) o,(c < I\/I+5<=c)->s.heap.get? c=some o->h'.get? c=some o)->Q none { s with heap:=h' }) :
    wpAny (model prog w) A (pyNext (.ref (I+4))) Q E s:=by
  have hT:s.TypeIs (.ref (I+4)) "zip" := ⟨_,hz.z,rfl⟩
  unfold pyNext
  refine wpAny_bind (wpAny_attempt (wpAny_callSpecial?_slot (name:=Str.ofString "__next__") hT F.slot_zip_next
    (wpAny_call_entry F.slot_zip_next hT F.entry_zip_next (QC hh hz hl1 lt1 hl2 lt2 hend fun h' e hk he=>?_) (F.args_zip_next_1 _))))
  obtain ⟨o,ho,hc⟩:=he
  refine wpAny_bind (wpAny_isInstance (T := "StopIteration") (b:=true) ⟨o,ho,hc⟩ isSubtype_stop ?_)
  exact wpAny_pure (hQ _ hk)
abbrev Hm (h:Heap) (l1 l2:Nat) (b1 b2:Bool):Heap:=h.push (Gn l1 b1)
abbrev NF (h:Heap) (l1 l2:Nat) (b1 b2:Bool):Heap:=(Hm h l1 l2 b1 b2).push (Gn l2 b2)
abbrev ND (h:Heap) (l1 l2:Nat) (b1 b2:Bool):Heap:=(NF h l1 l2 b1 b2).push { cls:=.type "tuple", data:=.seq #[.ref h.objs.size,.ref (Hm h l1 l2 b1 b2).objs.size] }
abbrev NC (h:Heap) (l1 l2:Nat) (b1 b2:Bool):Heap:=(ND h l1 l2 b1 b2).push { cls:=.type "tuple", data:=.seq #[.none,.none] }
abbrev GC (h:Heap) (l1 l2:Nat) (b1 b2:Bool):Heap:=(NC h l1 l2 b1 b2).push { cls:=.type "zip", data:=.fields #[.none,.bool false,.bool false,.ref (NF h l1 l2 b1 b2).objs.size,.ref (ND h l1 l2 b1 b2).objs.size] }
theorem MM (l1 l2:Nat) (b1 b2:Bool) (xs1 xs2:Array Value) :
    Meets (Builtin.«zip.__new__» ⟨[.type "zip", .ref l1,.ref l2],[]⟩) (fun _ R s=>CY s.heap l1 xs1 b1/\CY s.heap l2 xs2 b2 /\
      R (.ok (.ret (.ref (NC s.heap l1 l2 b1 b2).objs.size))) { s with heap:=GC s.heap l1 l2 b1 b2 }):=
  .of_wp fun prog w A R s h=>by
    obtain ⟨hp,g,d,tk,os⟩:=s;obtain ⟨hl1,hl2,h⟩:=h;have hsub:=sub_zip;have hL1:CY (Shared.heap ⟨hp,g,d,tk,os⟩) l1 xs1 b1:=hl1.at fun o e=>e
    have hL2:CY (Shared.heap ⟨(Hm hp l1 l2 b1 b2),g,d,tk,os⟩) l2 xs2 b2:=hl2.at fun o e=>Heap.get?_push_of_some _ e
    wp_walk using Co hL1,Co hL2
    exact ⟨_,rfl,h⟩
theorem PP {l1 l2:Nat} {b1 b2:Bool} {xs1 xs2:Array Value} {Q:Value->Shared->Prop} (hl1:CY s.heap l1 xs1 b1) (hl2:CY s.heap l2 xs2 b2)
    (h:∀ h',Zst2 h' s.heap.objs.size l1 l2 b1 b2 0 .none->h'.objs.size=s.heap.objs.size+5->(∀ (c:Nat) o,s.heap.get? c=some o->h'.get? c=some o)->Q (.ref (s.heap.objs.size+4)) { s with heap:=h' }) :
    wpAny (model prog w) A (call (.type "zip") [.ref l1,.ref l2]) Q E s:=by
  refine callType_new F.called_zip (by decide) (F.typeCall_zip_2 _ _) (F.newCall_zip_2 _ _) (fun obj=>F.args_object_init_3 obj _ _) F.entry_zip_new (MM l1 l2 b1 b2 xs1 xs2) ⟨hl1,hl2,?_⟩;have z1:(Hm s.heap l1 l2 b1 b2).objs.size=s.heap.objs.size+1:=by exact Heap.size_push ..
  have z2:(NF s.heap l1 l2 b1 b2).objs.size=s.heap.objs.size+2:=by rw [Heap.size_push,z1]
  have z3:(ND s.heap l1 l2 b1 b2).objs.size=s.heap.objs.size+3:=by rw [Heap.size_push,z2]
  have z4:(NC s.heap l1 l2 b1 b2).objs.size=s.heap.objs.size+4:=by rw [Heap.size_push,z3]
  have z5:(GC s.heap l1 l2 b1 b2).objs.size=s.heap.objs.size+5:=by rw [Heap.size_push,z4]
  have gz:(GC s.heap l1 l2 b1 b2).get? (NC s.heap l1 l2 b1 b2).objs.size=some _:=Heap.get?_push_size _ rfl;have gto:(GC s.heap l1 l2 b1 b2).get? (ND s.heap l1 l2 b1 b2).objs.size=some _:=(Heap.get?_push_of_some _ (Heap.get?_push_size _ rfl));have gti:(GC s.heap l1 l2 b1 b2).get? (NF s.heap l1 l2 b1 b2).objs.size=some _:=(Heap.get?_push_of_some _ (Heap.get?_push_of_some _ (Heap.get?_push_size _ rfl)));have gs1:Cm (GC s.heap l1 l2 b1 b2) s.heap.objs.size l1 0 b1:=Cm.at (Cm.new (h:=s.heap)) fun o e=>(Heap.get?_push_of_some _ (Heap.get?_push_of_some _ (Heap.get?_push_of_some _ (Heap.get?_push_of_some _ e))))
  have gs2:Cm (GC s.heap l1 l2 b1 b2) (Hm s.heap l1 l2 b1 b2).objs.size l2 0 b2:=Cm.at (Cm.new (h:=(Hm s.heap l1 l2 b1 b2))) fun o e=>(Heap.get?_push_of_some _ (Heap.get?_push_of_some _ (Heap.get?_push_of_some _ e)))
  show _/\_;rw [z2,z3,z4] at gz;rw [z3] at gto;rw [z1,z2] at gti;rw [z1] at gs2;rw [z4];exact ⟨⟨_,gz,rfl⟩,h _ ⟨gz,gti,⟨_,_,gto⟩,gs1,gs2⟩ z5 fun c o x=>(Heap.get?_push_of_some _ (Heap.get?_push_of_some _ (Heap.get?_push_of_some _ (Heap.get?_push_of_some _ (Heap.get?_push_of_some _ x)))))⟩
end
theorem Xc {I b:Nat} (h:¬ b∈([(I+4),(I+2),(I+3),I,(I+1)]:List Nat)):b < I\/I+5<=b:=by simp only [List.mem_cons,List.not_mem_nil,or_false,not_or] at h;omega
theorem dh {I b:Nat} (h:b∈([(I+4),(I+2),(I+3),I,(I+1)]:List Nat)):I<=b/\b < I+5:=by simp only [List.mem_cons,List.not_mem_nil,or_false] at h;omega
def UD (K:W.Frag) (a1 a2:Nat) (b1 b2:Bool):It:=
 ⟨fun i H=>∃ xs1 xs2 y1 y2,DK K H a1 xs1 b1/\xs1[i]?=some y1/\DK K H a2 xs2 b2/\xs2[i]?=some y2,fun i H x H'=>∃ p y1 y2,H p=none/\x=.ref p/\H'=upd H p (.tup [y1,y2])/\(∀ xs,DK K H a1 xs b1->xs[i]?=some y1)/\(∀ xs,DK K H a2 xs b2->xs[i]?=some y2),fun i H=>∃ xs1 xs2,DK K H a1 xs1 b1/\DK K H a2 xs2 b2/\(xs1.length<=i\/xs2.length<=i)⟩
theorem OJ {P:Program} {w:World} {K:W.Frag} {elts:List Expr} {x1} {pos:Pos} (I a1 a2:Nat) (b1 b2:Bool) (lt1:a1 < I) (lt2:a2 < I):Turn P w K (.Tuple elts x1 pos) (UD K a1 a2 b1 b2) [(I+4),(I+2),(I+3),I,(I+1)] (I+4) (fun i h=>Zst2 h I a1 a2 b1 b2 i .none) where
 mem:=by simp
 obj:=fun i h st b hb=>by
  obtain ⟨z0,ti0,⟨v1,v2,to0⟩,s10,s20⟩:=st;simp only [List.mem_cons,List.not_mem_nil,or_false] at hb;rcases hb with rfl | rfl | rfl | rfl | rfl
  ·exact ⟨_,z0,fun v z=>by cases z⟩
  ·exact ⟨_,ti0,fun v z=>by cases z⟩
  ·exact ⟨_,to0,fun v z=>by cases z⟩
  ·exact s10.obj
  ·exact s20.obj
 keep:=fun i h h' st k=>st.at fun c o c1 c2 e=>k c (by show c∈([(I+4),(I+2),(I+3),I,(I+1)]:List Nat);simp only [List.mem_cons,List.not_mem_nil,or_false];omega) o e
 item:=by
  intro X hP hw hK hc i pins s σ H E I1 hf st hg;subst hP hw hK;obtain ⟨ws1,ws2,y1,y2,hq1,hy1,hq2,hy2⟩:=hg;obtain ⟨its1,rv1,p1,hl1⟩:=I1.sqB hq1;obtain ⟨u1,hu1,ru1⟩:=rv1.get hy1;obtain ⟨its2,rv2,p2,hl2⟩:=I1.sqB hq2;obtain ⟨u2,hu2,ru2⟩:=rv2.get hy2;refine FH st p1 lt1 p2 lt2 (y1:=u1) (y2:=u2) (by simpa using hu1) (by simpa using hu2) fun h1 st1 t1 z1 k1=>?_
  refine ⟨_,rfl,wpAny_letOwnedTupleGo_zip (s:={ s with heap:=h1 }) st1.z fun h2 e2 sb=>?_⟩;have hzl:(I+4) < s.heap.objs.size:=Heap.lt_size st.z;have hfr:=I1.hok.fresh (Nat.le_refl s.heap.objs.size)
  have I2:Inv X pins σ (upd H s.heap.objs.size (.tup [y1,y2])) { s with heap:=s.heap.push { cls:=.type "tuple", data:=.seq #[u1,u2] },toks:=s.toks }:=
   I1.laid (fun b o q=>Heap.get?_push_of_some _ q) (Nat.le_refl _) (show Al X.prog X.w _ _ _ (.tup [y1,y2]) from ⟨by show 2<=sizeLine;decide,[u1,u2],(.cons ru1 (.cons ru2 .nil)),Fh.new _ _⟩)
  have hb:∀ b∈([(I+4),(I+2),(I+3),I,(I+1)]:List Nat),I<=b/\b < I+5:=fun b hb=>dh hb
  have hf1:∀ b∈([(I+4),(I+2),(I+3),I,(I+1)]:List Nat),FpOk X pins (upd H s.heap.objs.size (.tup [y1,y2])) b:=fun b hbb=>by
   obtain ⟨f0,r⟩:=hf b hbb;refine ⟨?_,r⟩;rw [AL (Nat.ne_of_lt (Nat.lt_of_lt_of_le (hb b hbb).2 (by omega)))];exact f0
  have I3:Inv X pins σ (upd H s.heap.objs.size (.tup [y1,y2])) { s with heap:=h2,toks:=s.toks }:=by
   refine Inv.turnedL (s:={ s with heap:=s.heap.push { cls:=.type "tuple", data:=.seq #[u1,u2] },toks:=s.toks }) (h':=h2) (t':=s.toks) (ch:=[(I+4),(I+2),(I+3),I,(I+1)]) I2 (fun b o hbb q=>?_) hf1
   have q:(s.heap.push { cls:=.type "tuple", data:=.seq #[u1,u2] }).get? b=some o:=q
   have hbe:b≠(I+4):=fun z=>hbb (by simp [z])
   refine (sb.2 b hbe).trans ?_
   by_cases hbs:b=s.heap.objs.size
   ·subst hbs;rw [Heap.get?_push_size _ rfl] at q;rw [<- q];exact t1
   ·rw [Heap.get?_push_ne _ _ _ hbs] at q;exact k1 b o (Xc hbb) q
  refine ⟨.ref s.heap.objs.size,_,I3,rfl,⟨_,y1,y2,hfr,rfl,rfl,fun zs hz=>by rw [I1.sqB_inj hz hq1];exact hy1,fun zs hz=>by rw [I1.sqB_inj hz hq2];exact hy2⟩,?_,fun b hbb=>(hf1 b hbb).1⟩;exact ⟨e2,sb.extBut _ _ (Av (by omega)) st1.ti,let ⟨v1,v2,e⟩:=st1.to;⟨v1,v2,sb.extBut _ _ (Av (by omega)) e⟩,st1.s1.at fun o e=>sb.extBut _ _ (Av (by omega)) e,st1.s2.at fun o e=>sb.extBut _ _ (Av (by omega)) e⟩
 done:=by
  intro X hP hw hK hc i pins s σ H E I1 hf st hg;subst hP hw hK;obtain ⟨ws1,ws2,hq1,hq2,hend⟩:=hg;obtain ⟨its1,rv1,p1,hl1⟩:=I1.sqB hq1;have le1:=rv1.length;obtain ⟨its2,rv2,p2,hl2⟩:=I1.sqB hq2;have le2:=rv2.length;have hend2:its1.toArray[i]?=none\/its2.toArray[i]?=none:=by
   rcases hend with h | h
   ·exact .inl (by simp;omega)
   ·exact .inr (by simp;omega)
  refine Fe (I1.ok.hd hc) st p1 lt1 p2 lt2 hend2 fun h' k=>⟨rfl,?_⟩
  refine Inv.turnedL (t':=s.toks) (ch:=[(I+4),(I+2),(I+3),I,(I+1)]) I1 (fun b o hbb e=>k b o (Xc hbb) e) hf
 self:=fun _ _ _ _ _ st h=>wpAny_pyIter_zip st.z h
section
variable {X:Cx} {elts:List Expr} {x1} {tpos:Pos}
abbrev dq (K:W.Frag) (ta:TA):TI:=fun σ H R=>ta σ H fun vs H1=>∃ a1 a2 b1 b2,vs=[.ref a1,.ref a2]/\(∃ xs,DK K H1 a1 xs b1)/\(∃ xs,DK K H1 a2 xs b2)/\R (UD K a1 a2 b1 b2) H1
theorem VM (K:W.Frag) {e1 e2:Expr} {ta:TA} {p pos:Pos} (hg:Gl X "zip") (hm:X.mg "zip" = none) (ha:PA X [e1,e2] ta) (hK:X.K=K:=by rfl) (hs:starEach (e1::[e2]) X.env=(false,eval e1 X.env)::starEach [e2] X.env:=by rfl) (hpl:(backTo pos (starEach [e2] X.env)).any (·.1)=false:=by rfl):PI X (.Tuple elts x1 tpos) (.Call (.Name "zip" p) [e1,e2] [] pos) (dq K ta):=by
 subst hK;intro pins s σ H R I h;refine Call_ (BR I hg hm PyProof.Rows.Boot.«zip» (PyProof.Rows.callWith_type1 (AZ (ha pos pins s σ H _ I h) fun us s1 ⟨vs,H1,I1,r1,q1⟩=>?_) hs hpl));obtain ⟨a1,a2,b1,b2,rfl,⟨ws1,hq1⟩,⟨ws2,hq2⟩,q⟩:=q1;obtain ⟨its1,rv1,p1,hl1⟩:=I1.sqB hq1;obtain ⟨its2,rv2,p2,hl2⟩:=I1.sqB hq2;have rr:=r1;clear r1;cases rr with
 | cons r1 w1 =>
  cases w1 with
  | cons r2 w2 =>
   cases w2;cases r1;cases r2;refine PP p1 p2 fun h' st hsz hk=>?_
   refine wpAny_pyIter_zip (s:={ s1 with heap:=h' }) st.z ?_;refine ⟨s1.heap.objs.size+4,[(s1.heap.objs.size+4),(s1.heap.objs.size+2),(s1.heap.objs.size+3),s1.heap.objs.size,(s1.heap.objs.size+1)],fun i h=>Zst2 h s1.heap.objs.size a1 a2 b1 b2 i .none,UD X.K a1 a2 b1 b2,H1,rfl,I1.kept (t':=s1.toks) hk,OJ s1.heap.objs.size a1 a2 b1 b2 hl1 hl2,st,fun b hb=>?_,q⟩;have hb':s1.heap.objs.size<=b:=(dh (I:=s1.heap.objs.size) hb).1;exact I1.fpOk hb' (I1.hok.fresh hb')
end
abbrev Jz (h:Heap) (T:Addr) (v1 v2 v3:Value):Prop:=h.get? T=some { cls:=.type "tuple", data:=.seq #[v1,v2,v3] }
section
variable {prog:Program} {w:World} {A:Around} {E:Value->Shared->Prop} {s:Shared}
theorem GE (a b c:Value):checkTypeCall "zip" ⟨[a,b,c],[]⟩=pure ():=by kernel_rfl
theorem Ha (a b c:Value):checkBuiltinCall "zip.__new__" ⟨[.type "zip", a,b,c],[]⟩=pure ():=by kernel_rfl
theorem EI (a b c d:Value):argsOk "object.__init__" ⟨[a,b,c,d],[]⟩:=by
 unfold argsOk;rw [signature?_of (id := "object.__init__") (n:=['_','_','t','i','n','i','_','_']) (o:=['t','c','e','j','b','o']) (by kernel_rfl) F.owner_object];kernel_rfl
theorem QG {T:Addr} {v1 v2 v3 x:Value} {Q:Unit->Shared->Prop} (hT:Jz s.heap T v1 v2 v3) (h:∀ h',Jz h' T x v2 v3->Heap.SameBut T s.heap h'->Q () { s with heap:=h' }):wpAny (model prog w) A (updateSeq T (·.setIfInBounds 0 x)) Q E s:=by
 refine wpAny_updateSeq hT rfl (h _ ?_ (Heap.SameBut.update ..));show Heap.get? _ _=_;rw [Heap.get?_update_self _ hT rfl];simp [Obj.mapSeq]
theorem QF {T:Addr} {v1 v2 v3 x:Value} {Q:Unit->Shared->Prop} (hT:Jz s.heap T v1 v2 v3) (h:∀ h',Jz h' T v1 x v3->Heap.SameBut T s.heap h'->Q () { s with heap:=h' }):wpAny (model prog w) A (updateSeq T (·.setIfInBounds 1 x)) Q E s:=by
 refine wpAny_updateSeq hT rfl (h _ ?_ (Heap.SameBut.update ..));show Heap.get? _ _=_;rw [Heap.get?_update_self _ hT rfl];simp [Obj.mapSeq]
theorem YI {T:Addr} {v1 v2 v3 x:Value} {Q:Unit->Shared->Prop} (hT:Jz s.heap T v1 v2 v3) (h:∀ h',Jz h' T v1 v2 x->Heap.SameBut T s.heap h'->Q () { s with heap:=h' }):wpAny (model prog w) A (updateSeq T (·.setIfInBounds 2 x)) Q E s:=by
 refine wpAny_updateSeq hT rfl (h _ ?_ (Heap.SameBut.update ..));show Heap.get? _ _=_;rw [Heap.get?_update_self _ hT rfl];simp [Obj.mapSeq]
structure Zst3 (h:Heap) (I:Nat) (l1 l2 l3:Nat) (b1 b2 b3:Bool) (i:Nat) (f0:Value):Prop where
 z:IsZip h (I+5) (I+3) (I+4) f0
 ti:Jz h (I+3) (.ref I) (.ref (I+1)) (.ref (I+2))
 to:∃ v1 v2 v3,Jz h (I+4) v1 v2 v3
 s1:Cm h I l1 i b1
 s2:Cm h (I+1) l2 i b2
 s3:Cm h (I+2) l3 i b3
theorem Zst3.at {h h':Heap} {I l1 l2 l3:Nat} {b1 b2 b3:Bool} {i:Nat} {f0:Value} (x:Zst3 h I l1 l2 l3 b1 b2 b3 i f0) (k:∀ (c:Nat) o,I<=c->c < I+6->h.get? c=some o->h'.get? c=some o):Zst3 h' I l1 l2 l3 b1 b2 b3 i f0:=
 ⟨k _ _ (by omega) (by omega) x.z,k _ _ (by omega) (by omega) x.ti,let ⟨v1,v2,v3,e⟩:=x.to;⟨v1,v2,v3,k _ _ (by omega) (by omega) e⟩,x.s1.at fun o e=>k _ o (by omega) (by omega) e,x.s2.at fun o e=>k _ o (by omega) (by omega) e,x.s3.at fun o e=>k _ o (by omega) (by omega) e⟩
theorem OF {I l1 l2 l3:Nat} {b1 b2 b3:Bool} {i:Nat} {xs1 xs2 xs3:Array Value} {y1 y2 y3:Value} {Q:Value->Shared->Prop} (hz:Zst3 s.heap I l1 l2 l3 b1 b2 b3 i .none) (hl1:CY s.heap l1 xs1 b1) (lt1:l1 < I) (hl2:CY s.heap l2 xs2 b2) (lt2:l2 < I) (hl3:CY s.heap l3 xs3 b3) (lt3:l3 < I) (hx1:xs1[i]?=some y1) (hx2:xs2[i]?=some y2) (hx3:xs3[i]?=some y3)
    (hQ:∀ h',Zst3 h' I l1 l2 l3 b1 b2 b3 (i+1) (rawInt s.heap.objs.size)->Jz h' s.heap.objs.size y1 y2 y3->h'.objs.size=s.heap.objs.size+1->(∀ (c:Nat) o,(c < I\/I+6<=c)->s.heap.get? c=some o->h'.get? c=some o)->Q (.ref s.heap.objs.size) { s with heap:=h' }) :
    wpAny (model prog w) A (Builtin.«zip.__next__» ⟨[.ref (I+5)],[]⟩) (fun fin s'=>∃ v,fin=.done (.ret v)/\Q v s') E s:=by
  obtain ⟨z0,ti0,⟨v1,v2,v3,to0⟩,s10,s20,s30⟩:=hz;show wpAny _ _ (field (.ref (I+5)) 2 >>= _) _ _ _;refine wpAny_bind (wpAny_field z0 rfl (x:=.bool false) rfl ?_);show wpAny _ _ (field (.ref (I+5)) 3 >>= _) _ _ _;refine wpAny_bind (wpAny_field z0 rfl (x:=.ref (I+3)) rfl ?_);refine wpAny_bind (wpAny_seqItems ti0 rfl ?_);show wpAny _ _ (Builtin.SmallTypes.ownedTupleIsFree (.ref (I+5)) >>= _) _ _ _;refine wpAny_bind ?_;unfold Builtin.SmallTypes.ownedTupleIsFree;refine wpAny_bind (wpAny_field z0 rfl (x:=.none) rfl (wpAny_pure ?_));simp only [if_true];refine wpAny_bind (wpAny_rule ?_);refine wpAny_bind (wpAny_field z0 rfl (x:=.ref (I+4)) rfl ?_);refine wpAny_bind (wpAny_setField_rec z0 (by simp) fun h₁ hz₁ hs₁=>?_);replace hz₁:IsZip h₁ (I+5) (I+3) (I+4) .ellipsis:=hz₁;refine wpAny_bind ?_;simp only [List.zipIdx_cons,List.zipIdx_nil,List.forIn_cons,List.forIn_nil];have g0:∀ (c:Nat) o,c≠(I+5)->s.heap.get? c=some o->h₁.get? c=some o:=fun c o c1 e=>hs₁.extBut _ _ c1 e
  have k0:∀ (c:Nat) o,c≠(I+5)->c≠(I+4)->(c < I\/I<=c)->s.heap.get? c=some o->h₁.get? c=some o:=fun c o c1 _ _ e=>g0 c o c1 e
  have to1:Jz h₁ (I+4) v1 v2 v3:=g0 _ _ (by omega) to0;refine wpAny_bind (wpAny_bind (wpAny_onRaise ?_));show wpAny _ _ (Builtin.SmallTypes.nextOf (.ref I) >>= _) _ _ _;refine wpAny_bind (Bu (s10.at fun o e=>k0 _ o (by omega) (by omega) (by omega) e) (hl1.at fun o e=>k0 _ o (by omega) (by omega) (by omega) e) hx1 fun p1 si1 sp1=>wpAny_pure ?_);have u1:Jz p1 (I+4) v1 v2 v3:=sp1.extBut _ _ (Av (by omega)) to1;refine wpAny_bind (wpAny_seqItems u1 rfl ?_);refine wpAny_bind (QG u1 fun q1 to2 sq1=>?_);have k1:∀ (c:Nat) o,c≠(I+5)->c≠(I+4)->(c < I\/I+1<=c)->s.heap.get? c=some o->q1.get? c=some o:=fun c o c1 c2 c3 e=>sq1.extBut _ _ c2 (sp1.extBut _ _ (Av (by omega)) (k0 c o c1 c2 (by omega) e))
  have zz1:IsZip q1 (I+5) (I+3) (I+4) .ellipsis:=sq1.extBut _ _ (Av (by omega)) (sp1.extBut _ _ (Av (by omega)) hz₁);have w1_1:Cm q1 I l1 (i+1) b1:=si1.at fun o e=>sq1.extBut _ _ (Av (by omega)) e
  refine wpAny_bind (wpAny_letGo (wpAny_pure ?_));refine wpAny_bind (wpAny_bind (wpAny_onRaise ?_));show wpAny _ _ (Builtin.SmallTypes.nextOf (.ref (I+1)) >>= _) _ _ _;refine wpAny_bind (Bu (s20.at fun o e=>k1 _ o (by omega) (by omega) (by omega) e) (hl2.at fun o e=>k1 _ o (by omega) (by omega) (by omega) e) hx2 fun p2 si2 sp2=>wpAny_pure ?_);have u2:Jz p2 (I+4) y1 v2 v3:=sp2.extBut _ _ (Av (by omega)) to2;refine wpAny_bind (wpAny_seqItems u2 rfl ?_);refine wpAny_bind (QF u2 fun q2 to3 sq2=>?_);have k2:∀ (c:Nat) o,c≠(I+5)->c≠(I+4)->(c < I\/I+2<=c)->s.heap.get? c=some o->q2.get? c=some o:=fun c o c1 c2 c3 e=>sq2.extBut _ _ c2 (sp2.extBut _ _ (Av (by omega)) (k1 c o c1 c2 (by omega) e))
  have zz2:IsZip q2 (I+5) (I+3) (I+4) .ellipsis:=sq2.extBut _ _ (Av (by omega)) (sp2.extBut _ _ (Av (by omega)) zz1);have w2_2:Cm q2 (I+1) l2 (i+1) b2:=si2.at fun o e=>sq2.extBut _ _ (Av (by omega)) e
  have w1_2:Cm q2 I l1 (i+1) b1:=w1_1.at fun o e=>sq2.extBut _ _ (Av (by omega)) (sp2.extBut _ _ (Av (by omega)) e)
  refine wpAny_bind (wpAny_letGo (wpAny_pure ?_));refine wpAny_bind (wpAny_bind (wpAny_onRaise ?_));show wpAny _ _ (Builtin.SmallTypes.nextOf (.ref (I+2)) >>= _) _ _ _;refine wpAny_bind (Bu (s30.at fun o e=>k2 _ o (by omega) (by omega) (by omega) e) (hl3.at fun o e=>k2 _ o (by omega) (by omega) (by omega) e) hx3 fun p3 si3 sp3=>wpAny_pure ?_);have u3:Jz p3 (I+4) y1 y2 v3:=sp3.extBut _ _ (Av (by omega)) to3;refine wpAny_bind (wpAny_seqItems u3 rfl ?_);refine wpAny_bind (YI u3 fun q3 to4 sq3=>?_);have k3:∀ (c:Nat) o,c≠(I+5)->c≠(I+4)->(c < I\/I+3<=c)->s.heap.get? c=some o->q3.get? c=some o:=fun c o c1 c2 c3 e=>sq3.extBut _ _ c2 (sp3.extBut _ _ (Av (by omega)) (k2 c o c1 c2 (by omega) e))
  have zz3:IsZip q3 (I+5) (I+3) (I+4) .ellipsis:=sq3.extBut _ _ (Av (by omega)) (sp3.extBut _ _ (Av (by omega)) zz2);have w3_3:Cm q3 (I+2) l3 (i+1) b3:=si3.at fun o e=>sq3.extBut _ _ (Av (by omega)) e
  have w1_3:Cm q3 I l1 (i+1) b1:=w1_2.at fun o e=>sq3.extBut _ _ (Av (by omega)) (sp3.extBut _ _ (Av (by omega)) e)
  have w2_3:Cm q3 (I+1) l2 (i+1) b2:=w2_2.at fun o e=>sq3.extBut _ _ (Av (by omega)) (sp3.extBut _ _ (Av (by omega)) e)
  refine wpAny_bind (wpAny_letGo (wpAny_pure (wpAny_pure ?_)));refine wpAny_bind (wpAny_seqItems to4 rfl ?_);refine wpAny_bind (wpAny_newTuple ?_);have hsz:q3.objs.size=s.heap.objs.size:=by rw [sq3.1,sp3.1,sq2.1,sp2.1,sq1.1,sp1.1,hs₁.1]
  have zlt:(I+5) < q3.objs.size:=Heap.lt_size zz3;show wpAny _ _ (Builtin.SmallTypes.ownedTupleHandOut (.ref (I+5)) (.ref q3.objs.size) >>= _) _ _ _;refine wpAny_bind ?_;unfold Builtin.SmallTypes.ownedTupleHandOut
  have z6:IsZip (q3.push { cls:=.type "tuple", data:=.seq #[y1,y2,y3] }) (I+5) (I+3) (I+4) .ellipsis:=Heap.get?_push_of_some _ zz3
  refine wpAny_bind (wpAny_setField_rec z6 (by simp) fun h₇ hz₇ hs₇=>?_);replace hz₇:IsZip h₇ (I+5) (I+3) (I+4) (rawInt q3.objs.size):=hz₇;refine wpAny_setField_rec hz₇ (by simp) fun h₈ hz₈ hs₈=>?_
  replace hz₈:IsZip h₈ (I+5) (I+3) (I+4) (rawInt q3.objs.size):=hz₈;have up:∀ (c:Nat) o,c≠(I+5)->q3.get? c=some o->h₈.get? c=some o:=fun c o c1 e=>hs₈.extBut _ _ c1 (hs₇.extBut _ _ c1 (Heap.get?_push_of_some _ e))
  have hT₈:Jz h₈ q3.objs.size y1 y2 y3:=hs₈.extBut _ _ (Av (by omega)) (hs₇.extBut _ _ (Av (by omega)) (Heap.get?_push_size _ rfl));have hz8:h₈.objs.size=q3.objs.size+1:=by rw [hs₈.1,hs₇.1,Heap.size_push]
  rw [hsz] at hz₈ hT₈ hz8;refine wpAny_pure ⟨_,rfl,?_⟩;show Q (.ref q3.objs.size) _;rw [hsz];exact hQ h₈ ⟨hz₈,up _ _ (by omega) (k3 _ _ (by omega) (by omega) (by omega) ti0),⟨y1,y2,y3,up _ _ (by omega) to4⟩,w1_3.at fun o e=>up _ o (by omega) e,w2_3.at fun o e=>up _ o (by omega) e,w3_3.at fun o e=>up _ o (by omega) e⟩ hT₈ hz8 fun c o hc e=>up c o (by omega) (k3 c o (by omega) (by omega) (by omega) e)
theorem QB {I l1 l2 l3:Nat} {b1 b2 b3:Bool} {i:Nat} {xs1 xs2 xs3:Array Value} {Q:Fin->Shared->Prop} (hh:A.handled=none) (hz:Zst3 s.heap I l1 l2 l3 b1 b2 b3 i .none) (hl1:CY s.heap l1 xs1 b1) (lt1:l1 < I) (hl2:CY s.heap l2 xs2 b2) (lt2:l2 < I) (hl3:CY s.heap l3 xs3 b3) (lt3:l3 < I) (hend:xs1[i]?=none\/xs2[i]?=none\/xs3[i]?=none)
    (hE:∀ h' e,(∀ (c:Nat) o,(c < I\/I+6<=c)->s.heap.get? c=some o->h'.get? c=some o)->(∃ o,h'.get? e=some o/\o.cls=.type "StopIteration")->E (.ref e) { s with heap:=h' }) :
    wpAny (model prog w) A (Builtin.«zip.__next__» ⟨[.ref (I+5)],[]⟩) Q E s:=by
  obtain ⟨z0,ti0,⟨v1,v2,v3,to0⟩,s10,s20,s30⟩:=hz;show wpAny _ _ (field (.ref (I+5)) 2 >>= _) _ _ _;refine wpAny_bind (wpAny_field z0 rfl (x:=.bool false) rfl ?_);show wpAny _ _ (field (.ref (I+5)) 3 >>= _) _ _ _;refine wpAny_bind (wpAny_field z0 rfl (x:=.ref (I+3)) rfl ?_);refine wpAny_bind (wpAny_seqItems ti0 rfl ?_);show wpAny _ _ (Builtin.SmallTypes.ownedTupleIsFree (.ref (I+5)) >>= _) _ _ _;refine wpAny_bind ?_;unfold Builtin.SmallTypes.ownedTupleIsFree;refine wpAny_bind (wpAny_field z0 rfl (x:=.none) rfl (wpAny_pure ?_));simp only [if_true];refine wpAny_bind (wpAny_rule ?_);refine wpAny_bind (wpAny_field z0 rfl (x:=.ref (I+4)) rfl ?_);refine wpAny_bind (wpAny_setField_rec z0 (by simp) fun h₁ hz₁ hs₁=>?_);replace hz₁:IsZip h₁ (I+5) (I+3) (I+4) .ellipsis:=hz₁;refine wpAny_bind ?_;simp only [List.zipIdx_cons,List.zipIdx_nil,List.forIn_cons,List.forIn_nil];have g0:∀ (c:Nat) o,c≠(I+5)->s.heap.get? c=some o->h₁.get? c=some o:=fun c o c1 e=>hs₁.extBut _ _ c1 e
  have k0:∀ (c:Nat) o,c≠(I+5)->c≠(I+4)->(c < I\/I<=c)->s.heap.get? c=some o->h₁.get? c=some o:=fun c o c1 _ _ e=>g0 c o c1 e
  have to1:Jz h₁ (I+4) v1 v2 v3:=g0 _ _ (by omega) to0;have zz0:IsZip h₁ (I+5) (I+3) (I+4) .ellipsis:=hz₁;refine wpAny_bind (wpAny_bind (wpAny_onRaise ?_));show wpAny _ _ (Builtin.SmallTypes.nextOf (.ref I) >>= _) _ _ _;cases hx1:xs1[i]? with
  | none =>
    refine wpAny_bind (Ew hh (s10.at fun o e=>k0 _ o (by omega) (by omega) (by omega) e) (hl1.at fun o e=>k0 _ o (by omega) (by omega) (by omega) e) hx1 fun h₂ e hs₂ he=>?_);obtain ⟨oe,hoe,hce⟩:=he;have hz₂:IsZip h₂ (I+5) (I+3) (I+4) .ellipsis:=hs₂ _ _ (Av (by omega)) zz0;have hez:e≠(I+5):=fun x=>by subst x;rw [hz₂] at hoe;cases hoe;simp at hce
    exact wpAny_setField_rec hz₂ (by simp) fun h₃ _ hs₃=>hE h₃ e (fun c o hc x=>hs₃.extBut _ _ (Av (by omega)) (hs₂ _ _ (Av (by omega)) (k0 c o (by omega) (by omega) (by omega) x))) ⟨oe,hs₃.extBut _ _ hez hoe,hce⟩
  | some y1 =>
    refine wpAny_bind (Bu (s10.at fun o e=>k0 _ o (by omega) (by omega) (by omega) e) (hl1.at fun o e=>k0 _ o (by omega) (by omega) (by omega) e) hx1 fun p1 si1 sp1=>wpAny_pure ?_);have u1:Jz p1 (I+4) v1 v2 v3:=sp1.extBut _ _ (Av (by omega)) to1;refine wpAny_bind (wpAny_seqItems u1 rfl ?_);refine wpAny_bind (QG u1 fun q1 to2 sq1=>?_);have k1:∀ (c:Nat) o,c≠(I+5)->c≠(I+4)->(c < I\/I+1<=c)->s.heap.get? c=some o->q1.get? c=some o:=fun c o c1 c2 c3 e=>sq1.extBut _ _ c2 (sp1.extBut _ _ (Av (by omega)) (k0 c o c1 c2 (by omega) e))
    have zz1:IsZip q1 (I+5) (I+3) (I+4) .ellipsis:=sq1.extBut _ _ (Av (by omega)) (sp1.extBut _ _ (Av (by omega)) zz0);refine wpAny_bind (wpAny_letGo (wpAny_pure ?_));refine wpAny_bind (wpAny_bind (wpAny_onRaise ?_));show wpAny _ _ (Builtin.SmallTypes.nextOf (.ref (I+1)) >>= _) _ _ _;cases hx2:xs2[i]? with
    | none =>
      refine wpAny_bind (Ew hh (s20.at fun o e=>k1 _ o (by omega) (by omega) (by omega) e) (hl2.at fun o e=>k1 _ o (by omega) (by omega) (by omega) e) hx2 fun h₂ e hs₂ he=>?_);obtain ⟨oe,hoe,hce⟩:=he;have hz₂:IsZip h₂ (I+5) (I+3) (I+4) .ellipsis:=hs₂ _ _ (Av (by omega)) zz1;have hez:e≠(I+5):=fun x=>by subst x;rw [hz₂] at hoe;cases hoe;simp at hce
      exact wpAny_setField_rec hz₂ (by simp) fun h₃ _ hs₃=>hE h₃ e (fun c o hc x=>hs₃.extBut _ _ (Av (by omega)) (hs₂ _ _ (Av (by omega)) (k1 c o (by omega) (by omega) (by omega) x))) ⟨oe,hs₃.extBut _ _ hez hoe,hce⟩
    | some y2 =>
      refine wpAny_bind (Bu (s20.at fun o e=>k1 _ o (by omega) (by omega) (by omega) e) (hl2.at fun o e=>k1 _ o (by omega) (by omega) (by omega) e) hx2 fun p2 si2 sp2=>wpAny_pure ?_);have u2:Jz p2 (I+4) y1 v2 v3:=sp2.extBut _ _ (Av (by omega)) to2;refine wpAny_bind (wpAny_seqItems u2 rfl ?_);refine wpAny_bind (QF u2 fun q2 to3 sq2=>?_);have k2:∀ (c:Nat) o,c≠(I+5)->c≠(I+4)->(c < I\/I+2<=c)->s.heap.get? c=some o->q2.get? c=some o:=fun c o c1 c2 c3 e=>sq2.extBut _ _ c2 (sp2.extBut _ _ (Av (by omega)) (k1 c o c1 c2 (by omega) e))
      have zz2:IsZip q2 (I+5) (I+3) (I+4) .ellipsis:=sq2.extBut _ _ (Av (by omega)) (sp2.extBut _ _ (Av (by omega)) zz1);refine wpAny_bind (wpAny_letGo (wpAny_pure ?_));refine wpAny_bind (wpAny_bind (wpAny_onRaise ?_));show wpAny _ _ (Builtin.SmallTypes.nextOf (.ref (I+2)) >>= _) _ _ _;cases hx3:xs3[i]? with
      | none =>
        refine wpAny_bind (Ew hh (s30.at fun o e=>k2 _ o (by omega) (by omega) (by omega) e) (hl3.at fun o e=>k2 _ o (by omega) (by omega) (by omega) e) hx3 fun h₂ e hs₂ he=>?_);obtain ⟨oe,hoe,hce⟩:=he;have hz₂:IsZip h₂ (I+5) (I+3) (I+4) .ellipsis:=hs₂ _ _ (Av (by omega)) zz2;have hez:e≠(I+5):=fun x=>by subst x;rw [hz₂] at hoe;cases hoe;simp at hce
        exact wpAny_setField_rec hz₂ (by simp) fun h₃ _ hs₃=>hE h₃ e (fun c o hc x=>hs₃.extBut _ _ (Av (by omega)) (hs₂ _ _ (Av (by omega)) (k2 c o (by omega) (by omega) (by omega) x))) ⟨oe,hs₃.extBut _ _ hez hoe,hce⟩
      | some y3 =>
        simp [hx1,hx2,hx3] at hend
theorem FG {I l1 l2 l3:Nat} {b1 b2 b3:Bool} {i:Nat} {xs1 xs2 xs3:Array Value} {y1 y2 y3:Value} {Q:Option Value->Shared->Prop} (hz:Zst3 s.heap I l1 l2 l3 b1 b2 b3 i .none) (hl1:CY s.heap l1 xs1 b1) (lt1:l1 < I) (hl2:CY s.heap l2 xs2 b2) (lt2:l2 < I) (hl3:CY s.heap l3 xs3 b3) (lt3:l3 < I) (hx1:xs1[i]?=some y1) (hx2:xs2[i]?=some y2) (hx3:xs3[i]?=some y3)
    (hQ:∀ h',Zst3 h' I l1 l2 l3 b1 b2 b3 (i+1) (rawInt s.heap.objs.size)->Jz h' s.heap.objs.size y1 y2 y3->h'.objs.size=s.heap.objs.size+1->(∀ (c:Nat) o,(c < I\/I+6<=c)->s.heap.get? c=some o->h'.get? c=some o)->Q (some (.ref s.heap.objs.size)) { s with heap:=h' }) :
    wpAny (model prog w) A (pyNext (.ref (I+5))) Q E s:=by
  have hT:s.TypeIs (.ref (I+5)) "zip" := ⟨_,hz.z,rfl⟩
  unfold pyNext
  exact wpAny_bind (wpAny_attempt (wpAny_callSpecial?_slot (name:=Str.ofString "__next__") hT F.slot_zip_next
    (wpAny_call_entry F.slot_zip_next hT F.entry_zip_next (OF hz hl1 lt1 hl2 lt2 hl3 lt3 hx1 hx2 hx3 fun h' a1 a2 a3 a4=>wpAny_pure (hQ h' a1 a2 a3 a4)) (F.args_zip_next_1 _))))
theorem Fc {I l1 l2 l3:Nat} {b1 b2 b3:Bool} {i:Nat} {xs1 xs2 xs3:Array Value} {Q:Option Value->Shared->Prop} (hh:A.handled=none) (hz:Zst3 s.heap I l1 l2 l3 b1 b2 b3 i .none) (hl1:CY s.heap l1 xs1 b1) (lt1:l1 < I) (hl2:CY s.heap l2 xs2 b2) (lt2:l2 < I) (hl3:CY s.heap l3 xs3 b3) (lt3:l3 < I) (hend:xs1[i]?=none\/xs2[i]?=none\/xs3[i]?=none)
    (hQ:∀ h',(∀ (c:Nat) o,(c < I\/I+6<=c)->s.heap.get? c=some o->h'.get? c=some o)->Q none { s with heap:=h' }) :
    wpAny (model prog w) A (pyNext (.ref (I+5))) Q E s:=by
  have hT:s.TypeIs (.ref (I+5)) "zip" := ⟨_,hz.z,rfl⟩
  unfold pyNext
  refine wpAny_bind (wpAny_attempt (wpAny_callSpecial?_slot (name:=Str.ofString "__next__") hT F.slot_zip_next
    (wpAny_call_entry F.slot_zip_next hT F.entry_zip_next (QB hh hz hl1 lt1 hl2 lt2 hl3 lt3 hend fun h' e hk he=>?_) (F.args_zip_next_1 _))))
  obtain ⟨o,ho,hc⟩:=he
  refine wpAny_bind (wpAny_isInstance (T := "StopIteration") (b:=true) ⟨o,ho,hc⟩ isSubtype_stop ?_)
  exact wpAny_pure (hQ _ hk)
abbrev Hl (h:Heap) (l1 l2 l3:Nat) (b1 b2 b3:Bool):Heap:=h.push (Gn l1 b1)
abbrev Hk (h:Heap) (l1 l2 l3:Nat) (b1 b2 b3:Bool):Heap:=(Hl h l1 l2 l3 b1 b2 b3).push (Gn l2 b2)
abbrev NB (h:Heap) (l1 l2 l3:Nat) (b1 b2 b3:Bool):Heap:=(Hk h l1 l2 l3 b1 b2 b3).push (Gn l3 b3)
abbrev NA (h:Heap) (l1 l2 l3:Nat) (b1 b2 b3:Bool):Heap:=(NB h l1 l2 l3 b1 b2 b3).push { cls:=.type "tuple", data:=.seq #[.ref h.objs.size,.ref (Hl h l1 l2 l3 b1 b2 b3).objs.size,.ref (Hk h l1 l2 l3 b1 b2 b3).objs.size] }
abbrev Mz (h:Heap) (l1 l2 l3:Nat) (b1 b2 b3:Bool):Heap:=(NA h l1 l2 l3 b1 b2 b3).push { cls:=.type "tuple", data:=.seq #[.none,.none,.none] }
abbrev FR (h:Heap) (l1 l2 l3:Nat) (b1 b2 b3:Bool):Heap:=(Mz h l1 l2 l3 b1 b2 b3).push { cls:=.type "zip", data:=.fields #[.none,.bool false,.bool false,.ref (NB h l1 l2 l3 b1 b2 b3).objs.size,.ref (NA h l1 l2 l3 b1 b2 b3).objs.size] }
theorem ML (l1 l2 l3:Nat) (b1 b2 b3:Bool) (xs1 xs2 xs3:Array Value) :
    Meets (Builtin.«zip.__new__» ⟨[.type "zip", .ref l1,.ref l2,.ref l3],[]⟩) (fun _ R s=>CY s.heap l1 xs1 b1/\CY s.heap l2 xs2 b2/\CY s.heap l3 xs3 b3 /\
      R (.ok (.ret (.ref (Mz s.heap l1 l2 l3 b1 b2 b3).objs.size))) { s with heap:=FR s.heap l1 l2 l3 b1 b2 b3 }):=
  .of_wp fun prog w A R s h=>by
    obtain ⟨hp,g,d,tk,os⟩:=s;obtain ⟨hl1,hl2,hl3,h⟩:=h;have hsub:=sub_zip;have hL1:CY (Shared.heap ⟨hp,g,d,tk,os⟩) l1 xs1 b1:=hl1.at fun o e=>e
    have hL2:CY (Shared.heap ⟨(Hl hp l1 l2 l3 b1 b2 b3),g,d,tk,os⟩) l2 xs2 b2:=hl2.at fun o e=>Heap.get?_push_of_some _ e
    have hL3:CY (Shared.heap ⟨(Hk hp l1 l2 l3 b1 b2 b3),g,d,tk,os⟩) l3 xs3 b3:=hl3.at fun o e=>Heap.get?_push_of_some _ (Heap.get?_push_of_some _ e)
    wp_walk using Co hL1,Co hL2,Co hL3
    exact ⟨_,rfl,h⟩
theorem PN {l1 l2 l3:Nat} {b1 b2 b3:Bool} {xs1 xs2 xs3:Array Value} {Q:Value->Shared->Prop} (hl1:CY s.heap l1 xs1 b1) (hl2:CY s.heap l2 xs2 b2) (hl3:CY s.heap l3 xs3 b3)
    (h:∀ h',Zst3 h' s.heap.objs.size l1 l2 l3 b1 b2 b3 0 .none->h'.objs.size=s.heap.objs.size+6->(∀ (c:Nat) o,s.heap.get? c=some o->h'.get? c=some o)->Q (.ref (s.heap.objs.size+5)) { s with heap:=h' }) :
    wpAny (model prog w) A (call (.type "zip") [.ref l1,.ref l2,.ref l3]) Q E s:=by
  refine callType_new F.called_zip (by decide) (GE _ _ _) (Ha _ _ _) (fun obj=>EI obj _ _ _) F.entry_zip_new (ML l1 l2 l3 b1 b2 b3 xs1 xs2 xs3) ⟨hl1,hl2,hl3,?_⟩;have z1:(Hl s.heap l1 l2 l3 b1 b2 b3).objs.size=s.heap.objs.size+1:=by exact Heap.size_push ..
  have z2:(Hk s.heap l1 l2 l3 b1 b2 b3).objs.size=s.heap.objs.size+2:=by rw [Heap.size_push,z1]
  have z3:(NB s.heap l1 l2 l3 b1 b2 b3).objs.size=s.heap.objs.size+3:=by rw [Heap.size_push,z2]
  have z4:(NA s.heap l1 l2 l3 b1 b2 b3).objs.size=s.heap.objs.size+4:=by rw [Heap.size_push,z3]
  have z5:(Mz s.heap l1 l2 l3 b1 b2 b3).objs.size=s.heap.objs.size+5:=by rw [Heap.size_push,z4]
  have z6:(FR s.heap l1 l2 l3 b1 b2 b3).objs.size=s.heap.objs.size+6:=by rw [Heap.size_push,z5]
  have gz:(FR s.heap l1 l2 l3 b1 b2 b3).get? (Mz s.heap l1 l2 l3 b1 b2 b3).objs.size=some _:=Heap.get?_push_size _ rfl;have gto:(FR s.heap l1 l2 l3 b1 b2 b3).get? (NA s.heap l1 l2 l3 b1 b2 b3).objs.size=some _:=(Heap.get?_push_of_some _ (Heap.get?_push_size _ rfl));have gti:(FR s.heap l1 l2 l3 b1 b2 b3).get? (NB s.heap l1 l2 l3 b1 b2 b3).objs.size=some _:=(Heap.get?_push_of_some _ (Heap.get?_push_of_some _ (Heap.get?_push_size _ rfl)));have gs1:Cm (FR s.heap l1 l2 l3 b1 b2 b3) s.heap.objs.size l1 0 b1:=Cm.at (Cm.new (h:=s.heap)) fun o e=>(Heap.get?_push_of_some _ (Heap.get?_push_of_some _ (Heap.get?_push_of_some _ (Heap.get?_push_of_some _ (Heap.get?_push_of_some _ e)))))
  have gs2:Cm (FR s.heap l1 l2 l3 b1 b2 b3) (Hl s.heap l1 l2 l3 b1 b2 b3).objs.size l2 0 b2:=Cm.at (Cm.new (h:=(Hl s.heap l1 l2 l3 b1 b2 b3))) fun o e=>(Heap.get?_push_of_some _ (Heap.get?_push_of_some _ (Heap.get?_push_of_some _ (Heap.get?_push_of_some _ e))))
  have gs3:Cm (FR s.heap l1 l2 l3 b1 b2 b3) (Hk s.heap l1 l2 l3 b1 b2 b3).objs.size l3 0 b3:=Cm.at (Cm.new (h:=(Hk s.heap l1 l2 l3 b1 b2 b3))) fun o e=>(Heap.get?_push_of_some _ (Heap.get?_push_of_some _ (Heap.get?_push_of_some _ e)))
  show _/\_;rw [z3,z4,z5] at gz;rw [z4] at gto;rw [z1,z2,z3] at gti;rw [z1] at gs2;rw [z2] at gs3;rw [z5];exact ⟨⟨_,gz,rfl⟩,h _ ⟨gz,gti,⟨_,_,_,gto⟩,gs1,gs2,gs3⟩ z6 fun c o x=>(Heap.get?_push_of_some _ (Heap.get?_push_of_some _ (Heap.get?_push_of_some _ (Heap.get?_push_of_some _ (Heap.get?_push_of_some _ (Heap.get?_push_of_some _ x))))))⟩
end
theorem Xb {I b:Nat} (h:¬ b∈([(I+5),(I+3),(I+4),I,(I+1),(I+2)]:List Nat)):b < I\/I+6<=b:=by simp only [List.mem_cons,List.not_mem_nil,or_false,not_or] at h;omega
theorem dg {I b:Nat} (h:b∈([(I+5),(I+3),(I+4),I,(I+1),(I+2)]:List Nat)):I<=b/\b < I+6:=by simp only [List.mem_cons,List.not_mem_nil,or_false] at h;omega
def UC (K:W.Frag) (a1 a2 a3:Nat) (b1 b2 b3:Bool):It:=
 ⟨fun i H=>∃ xs1 xs2 xs3 y1 y2 y3,DK K H a1 xs1 b1/\xs1[i]?=some y1/\DK K H a2 xs2 b2/\xs2[i]?=some y2/\DK K H a3 xs3 b3/\xs3[i]?=some y3,fun i H x H'=>∃ p y1 y2 y3,H p=none/\x=.ref p/\H'=upd H p (.tup [y1,y2,y3])/\(∀ xs,DK K H a1 xs b1->xs[i]?=some y1)/\(∀ xs,DK K H a2 xs b2->xs[i]?=some y2)/\(∀ xs,DK K H a3 xs b3->xs[i]?=some y3),fun i H=>∃ xs1 xs2 xs3,DK K H a1 xs1 b1/\DK K H a2 xs2 b2/\DK K H a3 xs3 b3/\(xs1.length<=i\/xs2.length<=i\/xs3.length<=i)⟩
theorem OI {P:Program} {w:World} {K:W.Frag} {elts:List Expr} {x1} {pos:Pos} (I a1 a2 a3:Nat) (b1 b2 b3:Bool) (lt1:a1 < I) (lt2:a2 < I) (lt3:a3 < I):Turn P w K (.Tuple elts x1 pos) (UC K a1 a2 a3 b1 b2 b3) [(I+5),(I+3),(I+4),I,(I+1),(I+2)] (I+5) (fun i h=>Zst3 h I a1 a2 a3 b1 b2 b3 i .none) where
 mem:=by simp
 obj:=fun i h st b hb=>by
  obtain ⟨z0,ti0,⟨v1,v2,v3,to0⟩,s10,s20,s30⟩:=st;simp only [List.mem_cons,List.not_mem_nil,or_false] at hb;rcases hb with rfl | rfl | rfl | rfl | rfl | rfl
  ·exact ⟨_,z0,fun v z=>by cases z⟩
  ·exact ⟨_,ti0,fun v z=>by cases z⟩
  ·exact ⟨_,to0,fun v z=>by cases z⟩
  ·exact s10.obj
  ·exact s20.obj
  ·exact s30.obj
 keep:=fun i h h' st k=>st.at fun c o c1 c2 e=>k c (by show c∈([(I+5),(I+3),(I+4),I,(I+1),(I+2)]:List Nat);simp only [List.mem_cons,List.not_mem_nil,or_false];omega) o e
 item:=by
  intro X hP hw hK hc i pins s σ H E I1 hf st hg;subst hP hw hK;obtain ⟨ws1,ws2,ws3,y1,y2,y3,hq1,hy1,hq2,hy2,hq3,hy3⟩:=hg;obtain ⟨its1,rv1,p1,hl1⟩:=I1.sqB hq1;obtain ⟨u1,hu1,ru1⟩:=rv1.get hy1;obtain ⟨its2,rv2,p2,hl2⟩:=I1.sqB hq2;obtain ⟨u2,hu2,ru2⟩:=rv2.get hy2;obtain ⟨its3,rv3,p3,hl3⟩:=I1.sqB hq3;obtain ⟨u3,hu3,ru3⟩:=rv3.get hy3;refine FG st p1 lt1 p2 lt2 p3 lt3 (y1:=u1) (y2:=u2) (y3:=u3) (by simpa using hu1) (by simpa using hu2) (by simpa using hu3) fun h1 st1 t1 z1 k1=>?_
  refine ⟨_,rfl,wpAny_letOwnedTupleGo_zip (s:={ s with heap:=h1 }) st1.z fun h2 e2 sb=>?_⟩;have hzl:(I+5) < s.heap.objs.size:=Heap.lt_size st.z;have hfr:=I1.hok.fresh (Nat.le_refl s.heap.objs.size)
  have I2:Inv X pins σ (upd H s.heap.objs.size (.tup [y1,y2,y3])) { s with heap:=s.heap.push { cls:=.type "tuple", data:=.seq #[u1,u2,u3] },toks:=s.toks }:=
   I1.laid (fun b o q=>Heap.get?_push_of_some _ q) (Nat.le_refl _) (show Al X.prog X.w _ _ _ (.tup [y1,y2,y3]) from ⟨by show 3<=sizeLine;decide,[u1,u2,u3],(.cons ru1 (.cons ru2 (.cons ru3 .nil))),Fh.new _ _⟩)
  have hb:∀ b∈([(I+5),(I+3),(I+4),I,(I+1),(I+2)]:List Nat),I<=b/\b < I+6:=fun b hb=>dg hb
  have hf1:∀ b∈([(I+5),(I+3),(I+4),I,(I+1),(I+2)]:List Nat),FpOk X pins (upd H s.heap.objs.size (.tup [y1,y2,y3])) b:=fun b hbb=>by
   obtain ⟨f0,r⟩:=hf b hbb;refine ⟨?_,r⟩;rw [AL (Nat.ne_of_lt (Nat.lt_of_lt_of_le (hb b hbb).2 (by omega)))];exact f0
  have I3:Inv X pins σ (upd H s.heap.objs.size (.tup [y1,y2,y3])) { s with heap:=h2,toks:=s.toks }:=by
   refine Inv.turnedL (s:={ s with heap:=s.heap.push { cls:=.type "tuple", data:=.seq #[u1,u2,u3] },toks:=s.toks }) (h':=h2) (t':=s.toks) (ch:=[(I+5),(I+3),(I+4),I,(I+1),(I+2)]) I2 (fun b o hbb q=>?_) hf1
   have q:(s.heap.push { cls:=.type "tuple", data:=.seq #[u1,u2,u3] }).get? b=some o:=q
   have hbe:b≠(I+5):=fun z=>hbb (by simp [z])
   refine (sb.2 b hbe).trans ?_
   by_cases hbs:b=s.heap.objs.size
   ·subst hbs;rw [Heap.get?_push_size _ rfl] at q;rw [<- q];exact t1
   ·rw [Heap.get?_push_ne _ _ _ hbs] at q;exact k1 b o (Xb hbb) q
  refine ⟨.ref s.heap.objs.size,_,I3,rfl,⟨_,y1,y2,y3,hfr,rfl,rfl,fun zs hz=>by rw [I1.sqB_inj hz hq1];exact hy1,fun zs hz=>by rw [I1.sqB_inj hz hq2];exact hy2,fun zs hz=>by rw [I1.sqB_inj hz hq3];exact hy3⟩,?_,fun b hbb=>(hf1 b hbb).1⟩;exact ⟨e2,sb.extBut _ _ (Av (by omega)) st1.ti,let ⟨v1,v2,v3,e⟩:=st1.to;⟨v1,v2,v3,sb.extBut _ _ (Av (by omega)) e⟩,st1.s1.at fun o e=>sb.extBut _ _ (Av (by omega)) e,st1.s2.at fun o e=>sb.extBut _ _ (Av (by omega)) e,st1.s3.at fun o e=>sb.extBut _ _ (Av (by omega)) e⟩
 done:=by
  intro X hP hw hK hc i pins s σ H E I1 hf st hg;subst hP hw hK;obtain ⟨ws1,ws2,ws3,hq1,hq2,hq3,hend⟩:=hg;obtain ⟨its1,rv1,p1,hl1⟩:=I1.sqB hq1;have le1:=rv1.length;obtain ⟨its2,rv2,p2,hl2⟩:=I1.sqB hq2;have le2:=rv2.length;obtain ⟨its3,rv3,p3,hl3⟩:=I1.sqB hq3;have le3:=rv3.length;have hend2:its1.toArray[i]?=none\/its2.toArray[i]?=none\/its3.toArray[i]?=none:=by
   rcases hend with h | h | h
   ·exact .inl (by simp;omega)
   ·exact .inr (.inl (by simp;omega))
   ·exact .inr (.inr (by simp;omega))
  refine Fc (I1.ok.hd hc) st p1 lt1 p2 lt2 p3 lt3 hend2 fun h' k=>⟨rfl,?_⟩
  refine Inv.turnedL (t':=s.toks) (ch:=[(I+5),(I+3),(I+4),I,(I+1),(I+2)]) I1 (fun b o hbb e=>k b o (Xb hbb) e) hf
 self:=fun _ _ _ _ _ st h=>wpAny_pyIter_zip st.z h
section
variable {X:Cx} {elts:List Expr} {x1} {tpos:Pos}
abbrev dn (K:W.Frag) (ta:TA):TI:=fun σ H R=>ta σ H fun vs H1=>∃ a1 a2 a3 b1 b2 b3,vs=[.ref a1,.ref a2,.ref a3]/\(∃ xs,DK K H1 a1 xs b1)/\(∃ xs,DK K H1 a2 xs b2)/\(∃ xs,DK K H1 a3 xs b3)/\R (UC K a1 a2 a3 b1 b2 b3) H1
theorem VL (K:W.Frag) {e1 e2 e3:Expr} {ta:TA} {p pos:Pos} (hg:Gl X "zip") (hm:X.mg "zip" = none) (ha:PA X [e1,e2,e3] ta) (hK:X.K=K:=by rfl) (hs:starEach (e1::[e2,e3]) X.env=(false,eval e1 X.env)::starEach [e2,e3] X.env:=by rfl) (hpl:(backTo pos (starEach [e2,e3] X.env)).any (·.1)=false:=by rfl):PI X (.Tuple elts x1 tpos) (.Call (.Name "zip" p) [e1,e2,e3] [] pos) (dn K ta):=by
 subst hK;intro pins s σ H R I h;refine Call_ (BR I hg hm PyProof.Rows.Boot.«zip» (PyProof.Rows.callWith_type1 (AZ (ha pos pins s σ H _ I h) fun us s1 ⟨vs,H1,I1,r1,q1⟩=>?_) hs hpl));obtain ⟨a1,a2,a3,b1,b2,b3,rfl,⟨ws1,hq1⟩,⟨ws2,hq2⟩,⟨ws3,hq3⟩,q⟩:=q1;obtain ⟨its1,rv1,p1,hl1⟩:=I1.sqB hq1;obtain ⟨its2,rv2,p2,hl2⟩:=I1.sqB hq2;obtain ⟨its3,rv3,p3,hl3⟩:=I1.sqB hq3;have rr:=r1;clear r1;cases rr with
 | cons r1 w1 =>
  cases w1 with
  | cons r2 w2 =>
   cases w2 with
   | cons r3 w3 =>
    cases w3;cases r1;cases r2;cases r3;refine PN p1 p2 p3 fun h' st hsz hk=>?_
    refine wpAny_pyIter_zip (s:={ s1 with heap:=h' }) st.z ?_;refine ⟨s1.heap.objs.size+5,[(s1.heap.objs.size+5),(s1.heap.objs.size+3),(s1.heap.objs.size+4),s1.heap.objs.size,(s1.heap.objs.size+1),(s1.heap.objs.size+2)],fun i h=>Zst3 h s1.heap.objs.size a1 a2 a3 b1 b2 b3 i .none,UC X.K a1 a2 a3 b1 b2 b3,H1,rfl,I1.kept (t':=s1.toks) hk,OI s1.heap.objs.size a1 a2 a3 b1 b2 b3 hl1 hl2 hl3,st,fun b hb=>?_,q⟩;have hb':s1.heap.objs.size<=b:=(dg (I:=s1.heap.objs.size) hb).1;exact I1.fpOk hb' (I1.hok.fresh hb')
end
def fo (x:Str):It:=⟨fun i H=>∃ c,x.cps[i]?=some c,fun i H v H'=>H'=H/\∃ c,x.cps[i]?=some c/\v=.str ⟨#[c]⟩,fun i H=>x.cps[i]?=none⟩
theorem Ls {h h':Heap} {a:Addr} {ty:String} {x:Str} {t:Tok} {i:Nat} (y:h.IsStrIter a ty x t i) (k:∀ o,h.get? a=some o->h'.get? a=some o):h'.IsStrIter a ty x t i:=
 let ⟨o,ho,r⟩:=y;⟨o,k o ho,r⟩
theorem QM {P:Program} {w:World} {K:W.Frag} {tg:Expr} (x:Str) (t:Tok) (it:Addr):Turn P w K tg (fo x) [it] it (fun i h=>h.IsStrIter it (strIterType x) x t i) where
 mem:=by simp
 obj:=fun i h st b hb=>by
  have e:b=it:=by simpa using hb
  subst e;obtain ⟨o,e,c,d⟩:=st;exact ⟨o,e,fun v z=>by rw [d] at z;cases z⟩
 keep:=fun i h h' st k=>Ls st fun o e=>k it (by simp) o e
 item:=by
  intro X hP hw hK hc i pins s σ H E I hf st hg;subst hP hw hK;obtain ⟨c,hx⟩:=hg;obtain ⟨f0,f1,f2,f3,f4,f5⟩:=hf it (by simp);have fin:∀ h':Heap,h'.IsStrIter it (strIterType x) x t (i+1)->Heap.SameBut it s.heap h'->∃ u,some (Value.str ⟨#[c]⟩ s.toks)=some u/\wpAny (model X.prog X.w) X.A (letOwnedTupleGo tg (.ref it) u) (fun _ s2=>∃ x_1 H',Inv X pins σ H' s2/\RelV x_1 u/\(fo x).yld i H x_1 H'/\s2.heap.IsStrIter it (strIterType x) x t (i+1)/\∀ b∈[it],H' b=none) E { s with heap:=h',toks:=s.toks+1 }:=fun h' st' sb=>by
   have I1:Inv X pins σ H { s with heap:=h',toks:=s.toks+1 }:=I.turned (t':=s.toks+1) (fun b o hb e=>(sb.2 b hb).trans e) f0 f1 f3 f4 f5;obtain ⟨o,e,c',d⟩:=id st';exact ⟨_,rfl,II (s:={ s with heap:=h',toks:=s.toks+1 }) e c' d (by unfold strIterType;split<;>decide) ⟨.str ⟨#[c]⟩,H,I1,⟨_,rfl⟩,⟨rfl,c,hx,rfl⟩,st',fun b hb=>(hf b hb).1⟩⟩
  by_cases ha:x.cps.all (· < 128)=true
  ·have e:strIterType x = "str_ascii_iterator" := by unfold strIterType;rw [if_pos ha]
   rw [e] at st fin ⊢;exact wpAny_pyNext_ascii_item st hx fun h' st' sb=>fin h' st' sb
  ·have e:strIterType x = "str_iterator" := by unfold strIterType;rw [if_neg ha]
   rw [e] at st fin ⊢;exact wpAny_pyNext_wide_item st hx fun h' st' sb=>fin h' st' sb
 done:=by
  intro X hP hw hK hc i pins s σ H E I hf st hg;subst hP hw hK;obtain ⟨f0,f1,f2,f3,f4,f5⟩:=hf it (by simp)
  by_cases ha:x.cps.all (· < 128)=true
  ·have e:strIterType x = "str_ascii_iterator" := by unfold strIterType;rw [if_pos ha]
   rw [e] at st;exact wpAny_pyNext_ascii_end (I.ok.hd hc) st hg fun h' eb=>⟨rfl,I.turned (t':=s.toks) (fun b o hb e=>eb b o hb e) f0 f1 f3 f4 f5⟩
  ·have e:strIterType x = "str_iterator" := by unfold strIterType;rw [if_neg ha]
   rw [e] at st;exact wpAny_pyNext_wide_end (I.ok.hd hc) st hg fun h' eb=>⟨rfl,I.turned (t':=s.toks) (fun b o hb e=>eb b o hb e) f0 f1 f3 f4 f5⟩
 self:=fun A i s Q E st h=>by
  by_cases ha:x.cps.all (· < 128)=true
  ·have e:strIterType x = "str_ascii_iterator" := by unfold strIterType;rw [if_pos ha]
   rw [e] at st;exact wpAny_pyIter_striter_ascii st h
  ·have e:strIterType x = "str_iterator" := by unfold strIterType;rw [if_neg ha]
   rw [e] at st;exact wpAny_pyIter_striter_wide st h
section
variable {X:Cx}
abbrev dw (K:W.Frag) (tl:TE):TI:=fun σ H R=>tl σ H fun x H1=>(∃ a xs,x=.ref a/\((Bq K H1 a xs/\R (fu K a) H1)\/(Ds K H1 a xs/\R (hG K a) H1)))\/∃ z,x=.str z/\R (fo z) H1
theorem VN {tg l:Expr} {tl:TE} (hl:PE X l tl):PI X tg l (dw X.K tl):=by
 intro pins s σ H R I h;refine AZ (hl pins s σ H _ I h) fun v s1 ⟨x,H1,I1,r1,q1⟩=>?_
 rcases q1 with ⟨a,xs,e,q⟩ | ⟨z,e,q⟩
 ·subst e;cases r1;rcases q with ⟨hq,q⟩ | ⟨hq,q⟩
  ·obtain ⟨its,rv,p,hz⟩:=I1.list hq;refine wpAny_pyIter_list p.isList ?_;refine ⟨s1.heap.objs.size,[s1.heap.objs.size],_,_,H1,rfl,I1.kept (t':=s1.toks) fun b o e=>Heap.get?_push_of_some _ e,OK a _,⟨_,Heap.get?_push_size _ rfl,rfl,rfl⟩,fun b hb=>?_,q⟩;have e:b=s1.heap.objs.size:=by simpa using hb
   subst e;exact I1.fpOk (Nat.le_refl _) (I1.hok.fresh (Nat.le_refl _))
  ·obtain ⟨its,rv,p,hz⟩:=I1.tuple hq;refine wpAny_pyIter_tuple (show s1.heap.IsTuple a its.toArray from p) ?_;refine ⟨s1.heap.objs.size,[s1.heap.objs.size],_,_,H1,rfl,I1.kept (t':=s1.toks) fun b o e=>Heap.get?_push_of_some _ e,Ll a _,⟨_,Heap.get?_push_size _ rfl,rfl,rfl⟩,fun b hb=>?_,q⟩;have e:b=s1.heap.objs.size:=by simpa using hb
   subst e;exact I1.fpOk (Nat.le_refl _) (I1.hok.fresh (Nat.le_refl _))
 ·subst e;obtain ⟨t,rfl⟩:=r1;refine wpAny_pyIter_strU ?_;refine ⟨s1.heap.objs.size,[s1.heap.objs.size],_,_,H1,rfl,I1.kept (t':=s1.toks) fun b o e=>Heap.get?_push_of_some _ e,QM z t _,⟨_,Heap.get?_push_size _ rfl,rfl,rfl⟩,fun b hb=>?_,q⟩;have e:b=s1.heap.objs.size:=by simpa using hb
  subst e;exact I1.fpOk (Nat.le_refl _) (I1.hok.fresh (Nat.le_refl _))
end
noncomputable def fm (K:W.Frag) (a:Addr) (n:Nat):It:=
 ⟨fun i H=>∃ xs x,Bq K H a xs/\xs.length=n/\xs.reverse[i]?=some x,fun i H x H'=>H'=H/\∀ xs,Bq K H a xs->xs.reverse[i]?=some x,fun i H=>n<=i⟩
theorem QN {P:Program} {w:World} {K:W.Frag} {tg:Expr} (a it:Addr) (n:Nat):Turn P w K tg (fm K a n) [it] it (fun i h=>i<=n/\h.IsRevIter it a ((n:Int) - 1 - i)) where
 mem:=by simp
 obj:=fun i h st b hb=>by
  have e:b=it:=by simpa using hb
  subst e;obtain ⟨_,o,e,c,d⟩:=st;exact ⟨o,e,fun v z=>by rw [d] at z;cases z⟩
 keep:=fun i h h' st k=>⟨st.1,st.2.at fun o e=>k it (by simp) o e⟩
 item:=by
  intro X hP hw hK hc i pins s σ H E I hf st hg;subst hP hw hK;obtain ⟨xs,x,hq,hn,hx⟩:=hg;obtain ⟨hi,st⟩:=st;obtain ⟨its,rv,p,hz⟩:=I.list hq;have hil:i < xs.length:=by have:=(List.getElem?_eq_some_iff.mp hx).1;simpa using this
  have hx2:xs[n - 1 - i]?=some x:=by
   rw [<- hx,List.getElem?_reverse hil,hn]
  obtain ⟨u,hu,ru⟩:=rv.get hx2;obtain ⟨f0,f1,f2,f3,f4,f5⟩:=hf it (by simp);have e:((n:Int) - 1 - i)=((n - 1 - i:Nat):Int):=by omega
  rw [e] at st;refine wpAny_pyNext_rev_item st p.isList (x:=u) (by simpa using hu) fun h' st' sb=>?_
  have I1:Inv X pins σ H { s with heap:=h' }:=I.turned (t':=s.toks) (fun b o hb e=>(sb.2 b hb).trans e) f0 f1 f3 f4 f5;obtain ⟨o,e',c,d⟩:=id st';have st2:i+1<=n/\h'.IsRevIter it a ((n:Int) - 1 - (i+1:Nat)):=⟨by omega,by
   have:((n:Int) - 1 - (i+1:Nat))=((n - 1 - i:Nat):Int) - 1:=by omega
   rw [this];exact st'⟩
  exact ⟨u,rfl,II (s:={ s with heap:=h' }) e' c d (by decide) ⟨x,H,I1,ru,⟨rfl,fun ys hy=>by rw [I.list_inj hy hq];exact hx⟩,st2,fun b hb=>(hf b hb).1⟩⟩
 done:=by
  intro X hP hw hK hc i pins s σ H E I hf st hg;subst hP hw hK;obtain ⟨hi,st⟩:=st;obtain ⟨f0,f1,f2,f3,f4,f5⟩:=hf it (by simp);have hg:n<=i:=hg;have e:((n:Int) - 1 - i) = -1:=by omega
  rw [e] at st;exact wpAny_pyNext_rev_end (I.ok.hd hc) st fun h' eb=>⟨rfl,I.turned (t':=s.toks) (fun b o hb e=>eb b o hb e) f0 f1 f3 f4 f5⟩
 self:=fun _ _ _ _ _ st h=>wpAny_pyIter_revIter st.2 h
section
variable {X:Cx} {tg:Expr}
abbrev gW (K:W.Frag) (ta:TA):TI:=fun σ H R=>ta σ H fun vs H1=>∃ a xs,vs=[.ref a]/\Bq K H1 a xs/\R (fm K a xs.length) H1
theorem ZL (K:W.Frag) {a:Expr} {ta:TA} {p pos:Pos} (hg:Gl X "reversed") (hm:X.mg "reversed" = none) (ha:PA X [a] ta) (hK:X.K=K:=by rfl) (hs:starEach [a] X.env=[(false,eval a X.env)]:=by rfl):PI X tg (.Call (.Name "reversed" p) [a] [] pos) (gW K ta):=by
 subst hK;intro pins s σ H R I h;refine Call_ (BR I hg hm PyProof.Rows.Boot.«reversed» (PyProof.Rows.callWith_type1 (AZ (ha pos pins s σ H _ I h) fun us s1 ⟨vs,H1,I1,r1,q1⟩=>?_) hs rfl));obtain ⟨l,xs,e,hq,q⟩:=q1;subst e;cases r1 with
 | cons r rr =>
  cases rr;cases r;obtain ⟨its,rv,pl,hz⟩:=I1.list hq;have hlen:=rv.length;refine call_reversed_list pl.isList ?_;have hR:(s1.heap.push (revObj l ((its.toArray.size:Int) - 1))).IsRevIter s1.heap.objs.size l ((its.toArray.size:Int) - 1):=⟨_,Heap.get?_push_size _ rfl,rfl,rfl⟩;refine wpAny_pyIter_revIter (s:={ s1 with heap:=s1.heap.push (revObj l ((its.toArray.size:Int) - 1)) }) hR ?_;refine ⟨s1.heap.objs.size,[s1.heap.objs.size],_,_,H1,rfl,I1.kept (t':=s1.toks) fun b o e=>Heap.get?_push_of_some _ e,QN l _ xs.length,⟨Nat.zero_le _,?_⟩,fun b hb=>?_,q⟩
  ·have:((xs.length:Int) - 1 - (0:Nat))=((its.toArray.size:Int) - 1):=by simp [hlen]
   rw [this];exact hR
  ·have e:b=s1.heap.objs.size:=by simpa using hb
   subst e;exact I1.fpOk (Nat.le_refl _) (I1.hok.fresh (Nat.le_refl _))
end
theorem Draws.sq {prog:Program} {w:World} {A:Around} (hh:A.handled=none) (it l:Addr) (hne:l≠it) (items:Array Value) (b:Bool) :
    Draws prog w A it [it,l] items.size (fun i v=>items[i]?=some v) (fun i h=>Cm h it l i b/\CY h l items b) where
  live:=fun _ _ st=>let ⟨o,ho,_⟩:=st.1.obj;⟨o,ho⟩
  frame:=fun _ _ _ st hk=>⟨st.1.at fun o e=>hk it (by simp) o e,st.2.at fun o e=>hk l (by simp) o e⟩
  item:=fun i s Q E hi st hQ=>by
    refine Bu st.1 st.2 (x:=items[i]) (by simp [hi]) fun h' hit' hs'=>?_
    exact hQ _ h' s.toks (by simp [hi]) ⟨hit',st.2.at fun o e=>hs'.extBut _ _ hne e⟩ hs'
  done:=fun s Q E st hE=>Ew hh st.1 st.2 (by simp) hE
def XA (K:W.Frag) (a:Addr) (b:Bool) (n:Nat):It:=
 ⟨fun i H=>∃ xs x,DK K H a xs b/\xs.length=n/\xs[i]?=some x,fun i H x H'=>∃ p y,H p=none/\x=.ref p/\H'=upd H p (.tup [.int i,y])/\∀ xs,DK K H a xs b->xs[i]?=some y,fun i H=>∃ xs,DK K H a xs b/\xs.length=n/\n<=i⟩
theorem Ln {P:Program} {w:World} {K:W.Frag} {elts:List Expr} {x1} {pos:Pos} (a e it:Addr) (b:Bool) (n:Nat) (hne:e≠it) (hae:a≠e) (hai:a≠it):Turn P w K (.Tuple elts x1 pos) (XA K a b n) [e,it] e (fun i h=>(∃ old,IsEnum h e it i old)/\Cm h it a i b/\i<=n) where
 mem:=by simp
 obj:=fun i h st c hb=>by
  obtain ⟨⟨old,he⟩,hi,hin⟩:=st;rcases List.mem_cons.mp hb with z | z
  ·subst z;exact ⟨_,he,fun v z=>by cases z⟩
  ·have z:=List.mem_singleton.mp z;subst z;exact hi.obj
 keep:=fun i h h' st k=>by
  obtain ⟨⟨old,he⟩,hi,hin⟩:=st;exact ⟨⟨old,k e (by simp) _ he⟩,hi.at fun o q=>k it (by simp) o q,hin⟩
 item:=by
  intro X hP hw hK hc i pins s σ H E I hf st hg;subst hP hw hK;obtain ⟨xs,x,hq,hxn,hx⟩:=hg;obtain ⟨⟨old,he⟩,hi,hin⟩:=st;obtain ⟨its,rv,p,hz⟩:=I.sqB hq;obtain ⟨u,hu,ru⟩:=rv.get hx;have hil:i < its.toArray.size:=by have:=(List.getElem?_eq_some_iff.mp hu).1;simpa using this
  refine wpAny_pyNext_enum_itemD (Draws.sq (A:=X.A.in1) (I.ok.hd hc) it a hai its.toArray b) he ⟨hi,p⟩ hil hne (by simp [hne,hae.symm]) fun x' h1 tk e1 o1 i1 t1 z1 k1=>?_
  have ex:x'=u:=by
   have e1:its.toArray[i]?=some x':=e1;rw [List.getElem?_toArray,hu] at e1;exact (Option.some.inj e1).symm
  subst ex;refine ⟨_,rfl,wpAny_letOwnedTupleGo_enum (s:={ s with heap:=h1,toks:=tk+1 }) o1 fun h2 e2 sb=>?_⟩;have hel:e < s.heap.objs.size:=Heap.lt_size he;have hil:it < s.heap.objs.size:=by obtain ⟨o,q,_⟩:=hi.obj;exact Heap.lt_size q
  have hfr:=I.hok.fresh (Nat.le_refl s.heap.objs.size)
  have I1:Inv X pins σ (upd H s.heap.objs.size (.tup [.int i,x])) { s with heap:=s.heap.push { cls:=.type "tuple", data:=.seq #[.int i tk,x'] },toks:=tk+1 }:=
   I.laid (fun b o q=>Heap.get?_push_of_some _ q) (Nat.le_refl _) (show Al X.prog X.w _ _ _ (.tup [.int i,x]) from ⟨by show 2<=sizeLine;decide,[.int i tk,x'],.cons ⟨_,rfl⟩ (.cons ru .nil),Fh.new _ _⟩)
  have hf1:∀ b∈[e,it],FpOk X pins (upd H s.heap.objs.size (.tup [.int i,x])) b:=fun b hb=>by
   obtain ⟨f0,r⟩:=hf b hb;refine ⟨?_,r⟩;have hbl:b≠s.heap.objs.size:=by
    rcases List.mem_cons.mp hb with z | z
    ·rw [z];exact Nat.ne_of_lt hel
    ·rw [List.mem_singleton.mp z];exact Nat.ne_of_lt hil
   rw [AL hbl];exact f0
  have I2:Inv X pins σ (upd H s.heap.objs.size (.tup [.int i,x])) { s with heap:=h2,toks:=tk+1 }:=by
   refine Inv.turnedL (s:={ s with heap:=s.heap.push { cls:=.type "tuple", data:=.seq #[.int i tk,x'] },toks:=tk+1 }) (h':=h2) (t':=tk+1) (ch:=[e,it]) I1 (fun b o hb q=>?_) hf1
   have q:(s.heap.push { cls:=.type "tuple", data:=.seq #[.int i tk,x'] }).get? b=some o:=q
   have hbe:b≠e:=fun z=>hb (by simp [z])
   have hbi:b≠it:=fun z=>hb (by simp [z])
   refine (sb.2 b hbe).trans ?_
   by_cases hbs:b=s.heap.objs.size
   ·subst hbs;rw [Heap.get?_push_size _ rfl] at q;rw [<- q];exact t1
   ·refine k1 b o hbe hbi ?_;rw [Heap.get?_push_ne _ _ _ hbs] at q;exact q
  refine ⟨.ref s.heap.objs.size,_,I2,rfl,⟨_,x,hfr,rfl,rfl,fun ys hy=>by rw [I.sqB_inj hy hq];exact hx⟩,⟨⟨x',by simpa using e2⟩,?_,?_⟩,fun b hb=>(hf1 b hb).1⟩
  ·exact i1.1.at fun o q=>(sb.2 it hne.symm).trans q
  ·have:=(List.getElem?_eq_some_iff.mp hx).1;omega
 done:=by
  intro X hP hw hK hc i pins s σ H E I hf st hg;subst hP hw hK;obtain ⟨xs,hq,hx,hx2⟩:=hg;obtain ⟨⟨old,he⟩,hi,hin⟩:=st;obtain ⟨its,rv,p,hz⟩:=I.sqB hq;obtain ⟨f0,f1,f2,f3,f4,f5⟩:=hf it (by simp);have hl:=rv.length;have ei:its.toArray.size=i:=by simp;omega
  exact wpAny_pyNext_enum_endD (Draws.sq (A:=X.A.in1) (I.ok.hd hc) it a hai its.toArray b) he (by rw [ei];exact ⟨hi,p⟩) fun h' eb=>⟨rfl,I.turned (t':=s.toks) (fun b o hb e=>eb b o hb e) f0 f1 f3 f4 f5⟩
 self:=fun _ _ _ _ _ st h=>wpAny_pyIter_enum st.1.choose_spec h
theorem Kr (l:Addr) (items:Array Value) (n:Nat) (dct:Option Addr) (sl:Array (Option Value)) :
    Meets (Builtin.«enumerate.__new__» ⟨[.type "enumerate", .ref l],[]⟩) (fun _ R s=>s.heap.get? l=some { cls:=.type "tuple", dict:=dct,data:=.seq items n,slots:=sl } /\
      R (.ok (.ret (.ref (s.heap.push { cls:=.type "tuple_iterator", data:=.fields #[.ref l,.int 0 0] }).objs.size)))
        { s with heap:=(s.heap.push { cls:=.type "tuple_iterator", data:=.fields #[.ref l,.int 0 0] }).push { cls:=.type "enumerate", data:=.fields #[.none,.bool false,.ref s.heap.objs.size,rawInt 0,.none,.none] } }):=
  .of_wp fun prog w A R s h=>by
    obtain ⟨hp,g,d,tk,os⟩:=s;obtain ⟨hl,h⟩:=h;have hsub:=sub_enumerate;have hL:Heap.IsTuple (Shared.heap ⟨hp,g,d,tk,os⟩) l items:=⟨_,hl,rfl,n,rfl⟩
    wp_walk using PySem.AutoSeq1.wpAny_loadPart' hl
    refine wpAny_stack_any fun st=>wpAny_pure ?_
    split
    · rename_i c _ _ _ _ _
      cases (c == Value.type "enumerate")
      · wp_walk using PySem.AutoSeq1.wpAny_loadPart' hl,wpAny_pyIter_tuple hL
        exact ⟨_,rfl,h⟩
      · wp_walk using PySem.AutoSeq1.wpAny_loadPart' hl,wpAny_pyIter_tuple hL
        exact ⟨_,rfl,h⟩
    · wp_walk using PySem.AutoSeq1.wpAny_loadPart' hl,wpAny_pyIter_tuple hL
      exact ⟨_,rfl,h⟩
section
variable {prog:Program} {w:World} {A:Around} {E:Value->Shared->Prop} {s:Shared}
theorem Ml {l:Addr} {items:Array Value} {b:Bool} {Q:Value->Shared->Prop} (hL:CY s.heap l items b)
    (h:∀ h',IsEnum h' (s.heap.objs.size+1) s.heap.objs.size 0 .none->Cm h' s.heap.objs.size l 0 b->h'.objs.size=s.heap.objs.size+2 ->
      (∀ b o,s.heap.get? b=some o->h'.get? b=some o)->Q (.ref (s.heap.objs.size+1)) { s with heap:=h' }) :
    wpAny (model prog w) A (call (.type "enumerate") [.ref l]) Q E s:=by
  cases b with
  | false=>exact call_enumerate_list hL h
  | true =>
    obtain ⟨⟨c,dct,dt,sl⟩,hl,hc,n,hd⟩:=hL
    replace hc:c=.type "tuple" := hc
    replace hd:dt=.seq items n:=hd;subst hc hd;refine callType_new F.called_enumerate (by decide) (F.typeCall_enumerate_1 _) (F.newCall_enumerate_1 _) (fun obj=>F.args_object_init_2 obj _) F.entry_enumerate_new
      (Kr l items n dct sl) ⟨hl,?_⟩
    have hz:(s.heap.push { cls:=.type "tuple_iterator", data:=.fields #[.ref l,.int 0 0] }).objs.size=s.heap.objs.size+1:=Heap.size_push ..
    show _/\_;rw [hz]
    have he:IsEnum ((s.heap.push { cls:=.type "tuple_iterator", data:=.fields #[.ref l,.int 0 0] }).push
        { cls:=.type "enumerate", data:=.fields #[.none,.bool false,.ref s.heap.objs.size,rawInt 0,.none,.none] }) (s.heap.objs.size+1) s.heap.objs.size 0 .none:=by
      have:=Heap.get?_push_size (s.heap.push { cls:=.type "tuple_iterator", data:=.fields #[.ref l,.int 0 0] })
        (o:={ cls:=.type "enumerate", data:=.fields #[.none,.bool false,.ref s.heap.objs.size,rawInt 0,.none,.none] }) rfl
      rw [hz] at this;exact this
    refine ⟨⟨_,he,rfl⟩,h _ he ⟨_,Heap.get?_push_of_some _ (Heap.get?_push_size _ rfl),rfl,rfl⟩ (by rw [Heap.size_push,hz]) fun b o x=>Heap.get?_push_of_some _ (Heap.get?_push_of_some _ x)⟩
end
section
variable {X:Cx} {elts:List Expr} {x1} {tpos:Pos}
abbrev aJ (K:W.Frag) (ta:TA):TI:=fun σ H R=>ta σ H fun vs H1=>∃ a b xs,vs=[.ref a]/\DK K H1 a xs b/\R (XA K a b xs.length) H1
theorem RZ (K:W.Frag) {a:Expr} {ta:TA} {p pos:Pos} (hg:Gl X "enumerate") (hm:X.mg "enumerate" = none) (ha:PA X [a] ta) (hK:X.K=K:=by rfl) (hs:starEach [a] X.env=[(false,eval a X.env)]:=by rfl):PI X (.Tuple elts x1 tpos) (.Call (.Name "enumerate" p) [a] [] pos) (aJ K ta):=by
 subst hK;intro pins s σ H R I h;refine Call_ (BR I hg hm PyProof.Rows.Boot.«enumerate» (PyProof.Rows.callWith_type1 (AZ (ha pos pins s σ H _ I h) fun us s1 ⟨vs,H1,I1,r1,q1⟩=>?_) hs rfl));obtain ⟨l,b,xs,e,hq,q⟩:=q1;subst e;cases r1 with
 | cons r rr =>
  cases rr;cases r;obtain ⟨its,rv,pl,hz⟩:=I1.sqB hq;refine Ml pl fun h' hE hI hsz hk=>?_
  refine wpAny_pyIter_enum (s:={ s1 with heap:=h' }) hE ?_;refine ⟨s1.heap.objs.size+1,[s1.heap.objs.size+1,s1.heap.objs.size],_,_,H1,rfl,I1.kept (t':=s1.toks) hk,Ln l _ _ b xs.length (Nat.succ_ne_self _) (Nat.ne_of_lt (Nat.lt_succ_of_lt hz)) (Nat.ne_of_lt hz),⟨⟨_,hE⟩,hI,Nat.zero_le _⟩,fun c hb=>?_,q⟩;have hb':s1.heap.objs.size<=c:=by
   rcases List.mem_cons.mp hb with z | z
   ·rw [z];exact Nat.le_succ _
   ·rw [List.mem_singleton.mp z];exact Nat.le_refl _
  exact I1.fpOk hb' (I1.hok.fresh hb')
end
section
variable {X:Cx} {p1 p2 pos1 pos2:Pos} {es:List Expr} {e:Expr} {ta:TA}
abbrev KM (ta:TA):TE:=fun σ H Q=>ta σ H fun vs H1=>∃ (i j:Int),(vs=[.int j]/\i=0\/vs=[.int i,.int j])/\(-(2 ^ 62)<=i/\i < 2 ^ 62/\-(2 ^ 62)<=j/\j < 2 ^ 62)/\(j - i).toNat<=1000000/\∀ l,H1 l=none->Q (.ref l) (upd H1 l (.lst ((List.range (j - i).toNat).map fun k=>.int (i+(k:Nat)))))
theorem ID {A:Around} {E:Value->Shared->Prop} {pins:List (Addr×Obj)} {σ:St} {H:Hp} {s:Shared} {Q:VK} {i j:Int} {t u v:Tok} {tk:Nat} (hh:A.handled=none) (I:Inv X pins σ H s) (h1:-(2 ^ 62)<=i) (h2:i < 2 ^ 62) (h3:-(2 ^ 62)<=j) (h4:j < 2 ^ 62) (hl:(j - i).toNat<=1000000)
    (q:∀ l,H l=none->Q (.ref l) (upd H l (.lst ((List.range (j - i).toNat).map fun k=>.int (i+(k:Nat)))))) :
    wpAny (model X.prog X.w) A (call (.type "list") [.ref s.heap.objs.size]) (fun v s'=>∃ x H',Inv X pins σ H' s'/\RelV x v/\Q x H') E { s with heap:=s.heap.push { cls:=.type "range", data:=.fields #[.int i t,.int j u,.int 1 v] },toks:=tk }:=by
  have hr:Builtin.Range.rangeSize i j 1=((j - i).toNat:Nat):=by rw [rangeSize_one];split<;>omega
  refine call_list_range (n:=(j - i).toNat) hh (IsRange.new ..) (small_one h1 h2 h3 h4) hr (by omega) fun h' tk' acc c' hk eh hacc=>?_
  have kp:∀ b o,s.heap.get? b=some o->h'.get? b=some o:=fun b o e=>hk b o (Heap.get?_push_of_some _ e)
  have hsz:(s.heap.push { cls:=.type "range", data:=.fields #[.int i t,.int j u,.int 1 v] }).objs.size=s.heap.objs.size+1:=Heap.size_push ..
  have hv:AD ((List.range (j - i).toNat).map fun k=>V.int (i+(k:Nat))) acc.toList:=by
    have:∀ (n m:Nat) (l:List Value),l.length=n->(∀ (q:Nat) (v:Value),l[q]?=some v->∃ t,v=.int (i+((m+q:Nat):Int)) t)->AD ((List.range' m n).map fun k=>V.int (i+(k:Nat))) l:=by
      intro n
      induction n with
      | zero=>intro m l e _;cases l with | nil=>exact .nil | cons a b=>cases e
      | succ n ih =>
        intro m l e h;cases l with
        | nil=>cases e
        | cons a b =>
          rw [List.range'_succ,List.map_cons];refine .cons ?_ (ih (m+1) b (by simpa using e) fun q v hv=>?_)
          · obtain ⟨t,rfl⟩:=h 0 a rfl;exact ⟨t,rfl⟩
          · obtain ⟨t,rfl⟩:=h (q+1) v (by simpa using hv);exact ⟨t,by rw [Nat.add_assoc,Nat.add_comm 1 q]⟩
    rw [List.range_eq_range'];refine this (j - i).toNat 0 acc.toList (by simp [hacc.1]) fun q v hv=>?_
    obtain ⟨t,e⟩:=hacc.2 q v (by simpa using hv);exact ⟨t,by rw [e];simp⟩
  refine ⟨.ref _,_,I.laid (t':=tk') kp (by rw [hsz];exact Nat.le_succ _) (show Al X.prog X.w _ h' _ (.lst ((List.range (j - i).toNat).map fun k=>.int (i+(k:Nat)))) from ⟨by rw [List.length_map,List.length_range];exact Nat.le_trans hl (show 1000000<=sizeLine by decide),acc.toList,c',hv,by rw [eh]⟩),rfl,q _ (I.hok.fresh (by rw [hsz];exact Nat.le_succ _))⟩
theorem ME (hc:X.calm=true) (hgL:Gl X "list") (hmL:X.mg "list" = none) (hgR:Gl X "range") (hmR:X.mg "range" = none) (ha:PA X (e::es) ta)
    (hs1:starEach [.Call (.Name "range" p2) (e::es) [] pos2] X.env=(false,eval (.Call (.Name "range" p2) (e::es) [] pos2) X.env)::starEach [] X.env:=by rfl)
    (hpl1:(backTo pos1 (starEach [] X.env)).any (·.1)=false:=by rfl)
    (hs2:starEach (e::es) X.env=(false,eval e X.env)::starEach es X.env:=by rfl) (hpl2:(backTo pos2 (starEach es X.env)).any (·.1)=false:=by rfl) :
    PE X (.Call (.Name "list" p1) [.Call (.Name "range" p2) (e::es) [] pos2] [] pos1) (KM ta):=by
  intro pins s σ H Q I h;refine wpAny_Call_Name_kw (BR I hgL hmL PyProof.Rows.Boot.«list» ?_ (by decide) (by decide));refine PyProof.Rows.callWith_type1 ?_ hs1 hpl1;rw [hs1]
  show wpAny _ _ (spliced ((false,eval (.Call (.Name "range" p2) (e::es) [] pos2) X.env)::backTo pos1 (starEach [] X.env))) _ _ s
  refine Calls.spliced_cons ?_;refine wpAny_Call_Name_kw (BR I hgR hmR boot_range ?_ (by decide) (by decide));refine PyProof.Rows.callWith_type1 (AZ (ha pos2 pins s σ H _ I h) fun us s1 ⟨vs,H1,I1,r1,q1⟩=>?_) hs2 hpl2;obtain ⟨i,j,ev,⟨b1,b2,b3,b4⟩,hl,q⟩:=q1;rcases ev with ⟨ev,rfl⟩ | ev
  · subst ev;cases r1 with
    | cons r rr =>
      cases rr;obtain ⟨t,rfl⟩:=r;refine call_range_1 (Calls.spliced_nil ?_);exact ID (I1.ok.hd hc) I1 b1 b2 b3 b4 hl q
  · subst ev;cases r1 with
    | cons r rr =>
      cases rr with
      | cons r' rr =>
        cases rr;obtain ⟨t,rfl⟩:=r;obtain ⟨t',rfl⟩:=r';refine call_range_2 (Calls.spliced_nil ?_);exact ID (I1.ok.hd hc) I1 b1 b2 b3 b4 hl q
end
end L2
namespace R
open PySem L2
noncomputable def items:Dv->Option (List Dv)
 | .tup ds=>some ds
 | .lst ds=>some ds
 | .scr ns=>some (ns.map .int)
 | .str l=>some (l.map fun c=>.str [c])
 | _=>none
def Nl (f:Ev Dv):Ev (List Dv):=fun R m k=>f R m fun d m'=>(items d).bind fun ds=>k ds m'
section
variable {K:W.Frag} {g:G} {H:Hp}
theorem rep_int {o:Nat} {i:Int} {v:V} {P:Fp} (h:Rep K g H o (.int i) v P):v=.int i:=by unfold Rep at h;exact h.1
theorem Ay {o:Nat} {i:Int}:Rep K g H o (.int i) (.int i) nop:=by unfold Rep;exact ⟨rfl,fun _ z=>z⟩
theorem UL {a:Addr} {ds:List Dv} (h:Rep K g H 0 (.lst ds) (.ref a) nop):Yl K (fu K a) ds g H:=by
 intro g2 H2 st;have h2:=st.rep h;unfold Rep at h2;obtain ⟨b,vs,P',e,h1,h2,_⟩:=h2;cases e;have sq:Bq K H2 a vs:=.inl (.inl h1.1);refine ⟨fun i d e=>?_,fun i hi=>⟨vs,sq,by rw [<- h2.len];exact hi⟩⟩;obtain ⟨v,P,ev,rv,_⟩:=h2.get e;refine ⟨⟨vs,v,sq,ev⟩,fun x H3 y=>?_⟩;obtain ⟨rfl,y⟩:=y;have:=y vs sq;rw [ev] at this;cases this;exact AV.old rv.z
theorem YE {a:Addr} {ds:List Dv} (h:Rep K g H 0 (.tup ds) (.ref a) nop):Yl K (hG K a) ds g H:=by
 intro g2 H2 st;have h2:=st.rep h;unfold Rep at h2;obtain ⟨b,vs,e,h1,h2⟩:=h2;cases e;have sq:Ds K H2 a vs:=.inl (.inl h1);refine ⟨fun i d e=>?_,fun i hi=>⟨vs,sq,by rw [<- h2.len];exact hi⟩⟩;obtain ⟨v,P,ev,rv,_⟩:=h2.get e;refine ⟨⟨vs,v,sq,ev⟩,fun x H3 y=>?_⟩;obtain ⟨rfl,y⟩:=y;have:=y vs sq;rw [ev] at this;cases this;exact AV.old rv.z
theorem YG {a:Addr} {ns:List Int} (h:Rep K g H 0 (.scr ns) (.ref a) nop):Yl K (fu K a) (ns.map .int) g H:=by
 intro g2 H2 st;have h2:=st.rep h;unfold Rep at h2;obtain ⟨⟨b,e,h1⟩,_⟩:=h2;cases e;have sq:=h1.sq;refine ⟨fun i d e=>?_,fun i hi=>⟨_,sq,by rw [List.length_map] at hi ⊢;exact hi⟩⟩;rw [List.getElem?_map] at e;cases q:ns[i]? with
 | none=>rw [q] at e;cases e
 | some k =>
  rw [q] at e;cases e;refine ⟨⟨_,.int k,sq,by rw [List.getElem?_map,q];rfl⟩,fun x H3 y=>?_⟩;obtain ⟨rfl,y⟩:=y;have:=y _ sq;rw [List.getElem?_map,q] at this;cases this;exact AV.old Ay
theorem YF {l:List Nat}:Yl K (fo (tx l)) (l.map fun c=>.str [c]) g H:=by
 intro g2 H2 st;have ec:∀ i:Nat,(tx l).cps[i]?=l[i]?:=fun i=>by show l.toArray[i]?=l[i]?;simp
 refine ⟨fun i d e=>?_,fun i hi=>?_⟩
 ·rw [List.getElem?_map] at e;cases q:l[i]? with
  | none=>rw [q] at e;cases e
  | some c =>
   rw [q] at e;simp only [Option.map_some,Option.some.injEq] at e;subst e;refine ⟨⟨c,by rw [ec,q]⟩,fun x H3 y=>?_⟩;obtain ⟨rfl,c',e',rfl⟩:=y;rw [ec,q] at e';cases e';exact AV.old (by unfold Rep;exact ⟨rfl,fun _ z=>z⟩)
 ·show (tx l).cps[i]?=none;rw [ec];rw [List.length_map] at hi;exact List.getElem?_eq_none hi
theorem KB {lo:Int} {n:Nat}:Yl K (bV lo n) ((List.range n).map fun k=>.int (lo+(k:Nat))) g H:=by
 intro g2 H2 st;refine ⟨fun i d e=>?_,fun i hi=>by rw [List.length_map,List.length_range] at hi;exact hi⟩;obtain ⟨hi,rfl⟩:=Dh e;refine ⟨hi,fun x H3 y=>?_⟩;obtain ⟨rfl,rfl⟩:=y;exact AV.old Ay
end
section
variable {X:Cx} {tg e a b:Expr} {es:List Expr} {f:Ev Dv} {p pos:Pos} {Γ Γ':Gm} {js:List Nat} {as:List Ar}
theorem dk (h:PE X e (tE X.K Γ 0 Γ' js f)):PI X tg e (tI X.K Γ Γ' js (Nl f)):=PI.imp (VN h) fun σ H Q q=>by
 obtain ⟨g,m,P,r,R,k,res,e,q⟩:=q;refine ⟨g,m,P,r,R,_,res,e,fun d m' g' P' Pv v H' hk ag s rv r1 n=>?_⟩;obtain ⟨ds,e1,e2⟩:=bind_some' hk;have s':Step g P H g' P' H':=s.less fun _ z=>.inl z
 have rz:=rv.z;cases d with
 | tup es =>
  cases e1;have h0:=rz;unfold Rep at h0;obtain ⟨a,vs,rfl,h1,h2⟩:=h0;exact .inl ⟨a,vs,rfl,.inr ⟨.inl (.inl h1),q _ m' g' P' H' _ e2 ag s' r1 (YE rz)⟩⟩
 | lst es =>
  cases e1;have h0:=rz;unfold Rep at h0;obtain ⟨a,vs,P1,rfl,h1,h2,_⟩:=h0;exact .inl ⟨a,vs,rfl,.inl ⟨.inl (.inl h1.1),q _ m' g' P' H' _ e2 ag s' r1 (UL rz)⟩⟩
 | scr ns =>
  cases e1;have h0:=rz;unfold Rep at h0;obtain ⟨⟨a,rfl,h1⟩,_⟩:=h0;exact .inl ⟨a,_,rfl,.inl ⟨h1.sq,q _ m' g' P' H' _ e2 ag s' r1 (YG rz)⟩⟩
 | str l =>
  cases e1;have h0:=rz;unfold Rep at h0;exact .inr ⟨_,h0.1,q _ m' g' P' H' _ e2 ag s' r1 YF⟩
 | _=>cases e1
def Jw (K:W.Frag) (p:List Dv->Option (List Dv)) (r:List V->Hp->(It->Hp->Prop)->Prop):Prop:=∀ g H ds vs its Q,Zd g H->Reps K g H 0 ds vs nop->p ds=some its->(∀ J H',Pm H H'->Yl K J its g H'->Q J H')->r vs H Q
def Xm (p:List Dv->Option (List Dv)) (fa:Ev (List Dv)):Ev (List Dv):=fun R m k=>fa R m fun ds m'=>(p ds).bind fun its=>k its m'
abbrev Xh (r:List V->Hp->(It->Hp->Prop)->Prop) (ta:TA):TI:=fun σ H Q=>ta σ H fun vs H1=>r vs H1 Q
theorem UW {K:W.Frag} {pr:List Dv->Option (List Dv)} {r:List V->Hp->(It->Hp->Prop)->Prop} (hp:Jw K pr r) (c:AC Γ as Γ' js) (he:evd as=true) {σ:St} {H:Hp} {Q:It->Hp->Prop} (h:tI K Γ Γ' js (Xm pr (AQ as)) σ H Q):Xh r (Bn K as) σ H Q:=by
 obtain ⟨g,m,P,rl,R',k,res,e,q⟩:=h;refine AI as rl c e fun ds m' g' P' vs H1 hk ag s ar r1=>?_
 obtain ⟨its,e1,e2⟩:=bind_some' hk;exact hp g' H1 ds vs its Q r1.zd (ar.reps he) e1 fun J H2 sm yl=>q its m' g' P' H2 J e2 ag ((s.trans (Step.same sm)).less fun _ z=>z) (r1.same sm) yl
noncomputable def small (i:Int):Bool:=-1000000000<=i && i<=1000000000
theorem CB {i:Int} (h:small i=true):-1000000000<=i/\i<=1000000000:=by
 unfold small at h;rw [Bool.and_eq_true,decide_eq_true_eq,decide_eq_true_eq] at h;exact h
def BM (ds:List Dv):Option (List Dv):=match ds with
 | [.int n]=>bif small n then some ((List.range n.toNat).map fun k=>.int (0+(k:Nat))) else none
 | _=>none
def OU (ds:List Dv):Option (List Dv):=match ds with
 | [.int i,.int n]=>bif small i && small n then some ((List.range (n - i).toNat).map fun k=>.int (i+(k:Nat))) else none
 | _=>none
def cj:List V->Hp->(It->Hp->Prop)->Prop:=fun vs H1 R=>∃ j:Int,vs=[.int j]/\-(2 ^ 62)<=j/\j < 2 ^ 62/\R (bV 0 j.toNat) H1
def cg:List V->Hp->(It->Hp->Prop)->Prop:=fun vs H1 R=>∃ i j:Int,vs=[.int i,.int j]/\(-(2 ^ 62)<=i/\i < 2 ^ 62/\-(2 ^ 62)<=j/\j < 2 ^ 62)/\R (bV i (j - i).toNat) H1
theorem Qm {K:W.Frag}:Jw K BM cj:=fun g H ds vs its Q zd ra e q=>by
 unfold BM at e;split at e
 ·rename_i n;cases c:small n with
  | false=>rw [c] at e;cases e
  | true =>
   rw [c] at e;cases e;have hn:=CB c;unfold Reps at ra;obtain ⟨v,vr,_,_,rfl,h1,h2,_⟩:=ra;unfold Reps at h2;obtain ⟨rfl,_⟩:=h2;rw [rep_int h1];exact ⟨n,rfl,by omega,by omega,q _ H (fun _ _ z=>z) KB⟩
 ·cases e
theorem Ql {K:W.Frag}:Jw K OU cg:=fun g H ds vs its Q zd ra e q=>by
 unfold OU at e;split at e
 ·rename_i i n;cases c:small i && small n with
  | false=>rw [c] at e;cases e
  | true =>
   rw [c] at e;cases e;rw [Bool.and_eq_true] at c;have hi:=CB c.1;have hn:=CB c.2;unfold Reps at ra;obtain ⟨v,vr,_,_,rfl,h1,h2,_⟩:=ra;unfold Reps at h2;obtain ⟨v2,vr2,_,_,rfl,h3,h4,_⟩:=h2;unfold Reps at h4;obtain ⟨rfl,_⟩:=h4;rw [rep_int h1,rep_int h3];exact ⟨i,n,rfl,by omega,q _ H (fun _ _ z=>z) KB⟩
 ·cases e
end
structure Sig:Type 1 where
 ps:List Str
 io:List Nat
 ro:Nat
 nb:Bool
 fn:List Dv->Option (Dv×List Dv)
 cps:(R:Type)->List Dv->(Dv->List Dv->Option R)->Option R
 eq:∀ R ds k,cps R ds k=(fn ds).bind fun p=>k p.1 p.2
def Pu (n:Nat) (io:List Nat):Gm:=(List.range n).map fun i=>some (if io.contains i then 1 else 0)
def Bk (K:W.Frag) (g:G) (H:Hp) (io:List Nat) (bs:List Dv) (vs:List V) (P:Fp):Prop:=Rel K g H (io.map fun _=>some 1) bs (io.map fun i=>(vs[i]?).map id) P
def UF (K:W.Frag) (s:Sig):Sp:=fun vs H Q _=>∃ g ds P,Rel K g H (Pu s.ps.length s.io) ds (vs.map some) P/\∃ d bs,s.fn ds=some (d,bs) /\
 ∀ g' H' v Pv Pb,Step g P H g' (fun a=>Pv a\/Pb a) H'->Rep K g' H' s.ro d v Pv->Bk K g' H' s.io bs vs Pb->Disj Pv Pb->Q v H'
def Lx (n:Nat) (io:List Nat):Gm:=(List.range n).map fun i=>if io.contains i then some 1 else none
def WL (n p:Nat) (io:List Nat):Gm:=Pu p io++List.replicate (n - p) none
section
variable {K:W.Frag} {g:G} {H:Hp}
theorem Rel.pad {Γ:Gm} {m:M} {vs:List V} {P:Fp} (h:Rel K g H Γ m (vs.map some) P) (n:Nat):Rel K g H (Γ++List.replicate n none) (m++List.replicate n .non) (vs.map some++List.replicate n none) P:=by
 obtain ⟨zd,F,h1,h4⟩:=h;have old:∀ {i o:Nat},(Γ++List.replicate n none)[i]?=some (some o)->i < Γ.length/\Γ[i]?=some (some o):=fun {i o} e=>by
  by_cases z:i < Γ.length
  ·rw [List.getElem?_append_left z] at e;exact ⟨z,e⟩
  ·rw [List.getElem?_append_right (by omega),List.getElem?_replicate] at e;split at e<;>cases e
 refine ⟨zd,F,⟨by simp [h1.l1],by have:=h1.l2;simp at this ⊢;omega,fun i o e=>?_,fun i e=>?_,h1.dj⟩,h4⟩
 ·obtain ⟨hi,e⟩:=old e;obtain ⟨d,v,e1,e2,r⟩:=h1.rep i o e;exact ⟨d,v,by rw [List.getElem?_append_left (by rw [h1.l1];exact hi)];exact e1,by rw [List.getElem?_append_left (by rw [h1.l2];exact hi)];exact e2,r⟩
 ·refine h1.out i fun o z=>e o ?_
  rw [List.getElem?_append_left (List.getElem?_eq_some_iff.mp z).1];exact z
theorem Rel.pick {Γ:Gm} {m:M} {σ:St} {P:Fp} {io:List Nat} (h:Rel K g H Γ m σ P) (nd:io.Nodup) (hl:∀ i∈io,Γ[i]?=some (some 1)):∃ P',Rel K g H (io.map fun _=>some 1) (io.map m.at) (io.map fun i=>(σ[i]?).join) P'/\∀ a,P' a->P a:=by
 obtain ⟨zd,F,h1,h4⟩:=h;refine ⟨fun a=>∃ j i,io[j]?=some i/\F i a,⟨zd,fun j a=>∃ i,io[j]?=some i/\F i a,⟨by simp,by simp,fun j o e=>?_,fun j e a ⟨i,e',_⟩=>?_,fun j k n a ⟨i,e1,q1⟩ ⟨i',e2,q2⟩=>?_⟩,fun _=>Iff.rfl⟩,fun a ⟨j,i,_,q⟩=>(h4 a).mpr ⟨i,q⟩⟩
 ·rw [List.getElem?_map] at e;cases ej:io[j]? with
  | none=>rw [ej] at e;cases e
  | some i =>
   rw [ej] at e;cases e;obtain ⟨d,v,e1,e2,r⟩:=h1.rep i 1 (hl i (List.mem_of_getElem? ej));have eq:(fun a=>∃ i',some i=some i'/\F i' a)=F i:=funext fun a=>propext ⟨fun ⟨i',z,q⟩=>by cases z;exact q,fun q=>⟨i,rfl,q⟩⟩
   exact ⟨d,v,by rw [List.getElem?_map,ej,Option.map_some,Ic e1],by rw [List.getElem?_map,ej,Option.map_some,e2];rfl,by show Rep K g H 1 d v fun a=>∃ i',some i=some i'/\F i' a;rw [eq];exact r⟩
 ·refine e 1 ?_;rw [List.getElem?_map,e'];rfl
 ·by_cases z:i=i'
  ·subst z;refine n ?_;have hj:=(List.getElem?_eq_some_iff.mp e1);have hk:=(List.getElem?_eq_some_iff.mp e2);exact (List.getElem_inj (h₀:=hj.1) (h₁:=hk.1) nd).mp (hj.2.trans hk.2.symm)
  ·exact h1.dj i i' z a q1 q2
end
theorem eC {P:Program} {w:World} {K:W.Frag} {mg:Str->Option Value} {base:Heap} {x qual:Str} {st:Stmt} {f:Addr} {fd:FuncData} {N:List Str} {k:Nat} {s:Sig} (Fn:Fun K x qual st f fd) (S:FnScope N s.ps (AG st)) (nd:s.io.Nodup) (hio:∀ i∈s.io,i < s.ps.length) (hn:s.ps.length<=N.length)
    {body:Es} {Γn:Option Gm} {js:List Nat} (hw:JM (some (Lx N.length s.io)) Γn=true)
    (hb:∀ (cdv:Value) (A:Around) (outer:List Env) (s':Shared) (H:Hp) (E:XK),Room k (A.deeper (PyProof.Rows.envOfC qual (AG st) s'.heap.objs.size f cdv))->DL (LL Pp P w K mg base N qual (AG st) f cdv A outer s' H E).nox (AY st) (tS K ⟨s.io,Lx N.length s.io,s.ro⟩ none (WL N.length s.ps.length s.io) Γn js body))
    (hΦ:∀ ds d bs,ds.length=s.ps.length->s.fn ds=some (d,bs)->∃ (R:Type) (k:Kt R) (r:R),body R (ds++List.replicate (N.length - s.ps.length) .non) k=some r/\(∀ m,k.nx m=some r->d=.non/\bs=s.io.map m.at)/\(∀ d' m,k.rt d' m=some r->d=d'/\bs=s.io.map m.at)):FnOk P w K mg base Pp (k+1) f fd s.ps (UF K s):=by
  have ll:∀ n io,(Pu n io).length=n:=fun n io=>by unfold Pu;simp
  refine Fn.ok S (fun vs H Q E h=>?_) fun cdv A outer s' H vs Q E hr h=>⟨_,hb cdv A outer s' H E hr,?_⟩
  · obtain ⟨g,ds,Pa,r,_⟩:=h;have:=r.len.2;rw [ll] at this;simpa using this
  · obtain ⟨g,ds,Pa,r,d,bs,e,q⟩:=h;have l1:=r.len.1;have l2:=r.len.2;rw [ll] at l1 l2;rw [List.length_map] at l2;have r0:Rel K g H (WL N.length s.ps.length s.io) (ds++List.replicate (N.length - s.ps.length) .non) (L2.start N vs) Pa:=by
      unfold L2.start WL;rw [l2];exact r.pad _
    have hv:∀ {σ':St},Io s.io (L2.start N vs) σ'->∀ i∈s.io,(σ'[i]?).join=vs[i]?:=fun {σ'} hi i hm=>by
      rw [hi i hm];unfold L2.start;have hl:i < vs.length:=by rw [l2];exact hio i hm
      rw [List.getElem?_append_left (by simpa using hl),List.getElem?_map];cases vs[i]?<;>rfl
    have rg:∀ i∈s.io,(Lx N.length s.io)[i]?=some (some 1):=fun i hi=>by
      unfold Lx;rw [List.getElem?_map,List.getElem?_range (by have:=hio i hi;omega),Option.map_some,if_pos (List.contains_iff_mem.mpr hi)]
    obtain ⟨RT,kt,rt,hb0,hnx,hrt⟩:=hΦ ds d bs l1 e;have fin:∀ {d':Dv} {m':M} {g':G} {P' Pv:Fp} {σ':St} {v:V} {H':Hp},d=d'/\bs=s.io.map m'.at->Step g Pa H g' (fun a=>P' a\/Pv a) H'->Io s.io (L2.start N vs) σ'->Rep K g' H' s.ro d' v Pv->Rel K g' H' (Lx N.length s.io) m' σ' P'->Disj P' Pv->Q v H':=fun {d' m' g' P' Pv σ' v H'} hk st io rv r' n=>by
      obtain ⟨rfl,rfl⟩:=hk;obtain ⟨Pb,hbk,sb⟩:=r'.pick nd rg;refine q g' H' v Pv Pb (st.less fun a z=>z.elim .inr fun z=>.inl (sb a z)) rv ?_ fun a z w=>n a (sb a w) z
      have e:(s.io.map fun i=>(σ'[i]?).join)=s.io.map fun i=>(vs[i]?).map id:=List.map_congr_left fun i hi=>by rw [hv io i hi];cases vs[i]?<;>rfl
      unfold Bk;rw [<- e];exact hbk
    refine ⟨g,_,Pa,r0,RT,kt,rt,hb0,⟨fun Γ' m' g' P' σ' H' eΓ hk ag st' i' r'=>?_,fun d' m' g' P' Pv σ' v H' hk ag st' i' rv r' n=>fin (hrt d' m' hk) st' i' rv r' n,(fun _ _ _ _ _ _ z=>by cases z),fun _ _ _ _ _ _ z=>by cases z⟩⟩;subst eΓ;obtain ⟨g2,P2,s2,r2⟩:=r'.weaken (by unfold JM at hw;exact hw);exact fin (Pv:=nop) (v:=.non) (hnx m' hk) ((st'.trans s2).less fun _ z=>z.elim id False.elim) i' (by unfold Rep;exact ⟨rfl,fun _ z=>z⟩) r2 fun _ _ z=>z
noncomputable def Du (as:List Ar) (i:Nat):Option Nat:=match as[i]? with | some (.rf j)=>some j | _=>none
def slots (as:List Ar) (io:List Nat):List Nat:=io.map fun i=>(Du as i).getD 0
def fQ (as:List Ar) (io:List Nat):Bool:=(List.range as.length).all fun i=>((Du as i).isSome == io.contains i) && (List.range as.length).all fun j=>i == j || (Du as i).isNone || (Du as i != Du as j)
noncomputable def HY:List Nat->List Dv->M->M
 | s::sl,b::bs,m=>HY sl bs (m.set s b)
 | _,_,m=>m
def Mb (s:Sig) (as:List Ar):Ev Dv:=fun R m k=>AQ as R m fun ds m1=>s.cps R ds fun d bs=>k d (HY (slots as s.io) bs m1)
theorem Gb:∀ (sl:List Nat) (bs:List Dv) (m:M),(HY sl bs m).length=m.length
 | [],_,_=>rfl
 | _::_,[],_=>rfl
 | s::sl,b::bs,m=>by unfold HY;rw [Gb,List.length_set]
theorem EZ:∀ (sl:List Nat) (bs:List Dv) (m:M) (j:Nat),j∉sl->(HY sl bs m)[j]?=m[j]?
 | [],_,_,_,_=>rfl
 | _::_,[],_,_,_=>rfl
 | s::sl,b::bs,m,j,h=>by
  unfold HY;rw [EZ sl bs _ j fun z=>h (List.mem_cons_of_mem _ z),List.getElem?_set_ne fun z=>h (by rw [z];exact List.mem_cons_self)]
theorem NU:∀ (sl:List Nat) (bs:List Dv) (m:M) (k j:Nat) (b:Dv),sl.Nodup->sl[k]?=some j->bs[k]?=some b->j < m.length->(HY sl bs m)[j]?=some b
 | [],_,_,k,_,_,_,h,_,_=>by simp at h
 | _::_,[],_,k,_,_,_,_,h,_=>by simp at h
 | s::sl,c::bs,m,k,j,b,nd,h1,h2,hl=>by
  unfold HY;rw [List.nodup_cons] at nd;cases k with
  | zero =>
   simp at h1 h2;subst h1 h2;rw [EZ sl bs _ s nd.1,List.getElem?_set_self hl]
  | succ k=>exact NU sl bs _ k j b nd.2 (by simpa using h1) (by simpa using h2) (by rw [List.length_set];exact hl)
theorem RH (sl:List Nat) (bs:List Dv) (m:M):BW sl m (HY sl bs m):=⟨Gb ..,fun i h=>by
 unfold M.at;rw [List.getD_eq_getElem?_getD,List.getD_eq_getElem?_getD,EZ sl bs m i h]⟩
section
variable {K:W.Frag} {g:G} {H:Hp} {σ:St} {Γ Γ':Gm} {js:List Nat} {m:M} {P:Fp} {as:List Ar}
theorem Ak.len:∀ {as:List Ar} {ds:List Dv} {vs:List V},Ak K g H Γ m σ as ds vs->ds.length=as.length/\vs.length=as.length
 | [],ds,vs,h=>by unfold Ak at h;obtain ⟨rfl,rfl⟩:=h;exact ⟨rfl,rfl⟩
 | .ev _ _ _ _::as,ds,vs,h=>by
  unfold Ak at h;obtain ⟨d,v,ds',vs',rfl,rfl,_,h2⟩:=h;simp [h2.len.1,h2.len.2]
 | .rf i::as,ds,vs,h=>by
  unfold Ak at h;obtain ⟨v,ds',vs',rfl,rfl,_,_,h3⟩:=h;simp [h3.len.1,h3.len.2]
theorem Ak.get:∀ {as:List Ar} {ds:List Dv} {vs:List V} {i:Nat},Ak K g H Γ m σ as ds vs->i < as.length->∃ d v,ds[i]?=some d/\vs[i]?=some v/\((∃ j,Du as i=some j/\d=m.at j/\σ[j]?=some (some v))\/(Du as i=none/\Rep K g H 0 d v nop))
 | [],_,_,i,_,h=>by simp at h
 | .ev _ _ _ f::as,ds,vs,i,h,hi=>by
  unfold Ak at h;obtain ⟨d,v,ds',vs',rfl,rfl,h1,h2⟩:=h;cases i with
  | zero=>exact ⟨d,v,rfl,rfl,.inr ⟨rfl,h1⟩⟩
  | succ i =>
   obtain ⟨d,v,e1,e2,z⟩:=h2.get (i:=i) (by simpa using hi);exact ⟨d,v,by simpa using e1,by simpa using e2,z⟩
 | .rf j::as,ds,vs,i,h,hi=>by
  unfold Ak at h;obtain ⟨v,ds',vs',rfl,rfl,h1,_,h3⟩:=h;cases i with
  | zero=>exact ⟨_,v,rfl,rfl,.inl ⟨j,rfl,rfl,h1⟩⟩
  | succ i =>
   obtain ⟨d,v,e1,e2,z⟩:=h3.get (i:=i) (by simpa using hi);exact ⟨d,v,by simpa using e1,by simpa using e2,z⟩
theorem EX {i j:Nat} (h:Du as i=some j):i < as.length:=by
 unfold Du at h;cases e:as[i]? with
 | none=>rw [e] at h;cases h
 | some a=>exact (List.getElem?_eq_some_iff.mp e).1
theorem Yc {io:List Nat} (h:fQ as io=true):(∀ i,i < as.length->((Du as i).isSome=true↔i∈io))/\∀ i i' j,Du as i=some j->Du as i'=some j->i=i':=by
 unfold fQ at h;rw [List.all_eq_true] at h;refine ⟨fun i hi=>?_,fun i i' j e e'=>?_⟩
 ·have:=h i (List.mem_range.mpr hi);rw [Bool.and_eq_true,beq_iff_eq] at this;rw [this.1,List.contains_iff_mem]
 ·have:=h i (List.mem_range.mpr (EX e));rw [Bool.and_eq_true,List.all_eq_true] at this;have:=this.2 i' (List.mem_range.mpr (EX e'));rw [e,e'] at this;simp at this;exact this
theorem Su {s:Sig} (c:AC Γ as Γ' js) (hs:fQ as s.io=true) (hn:as.length=s.ps.length) (nd:s.io.Nodup) (hio:∀ i∈s.io,i < s.ps.length) (hl:∀ i∈slots as s.io,Γ'[i]?=some (some 1)) {Q:VK}
    (h:tE K Γ s.ro Γ' (js++slots as s.io) (Mb s as) σ H Q):Bn K as σ H fun vs H1=>UF K s vs H1 Q E0:=by
  obtain ⟨g,m,P,r,R,k,res,e,q⟩:=h;obtain ⟨hs1,hs2⟩:=Yc hs;refine AI as r c e fun ds m1 g1 P1 vs H1 hk ag st ar r1=>?_
  rw [s.eq] at hk;obtain ⟨⟨d,bs⟩,e1,e2⟩:=bind_some' hk;have r1':=r1;obtain ⟨zd,F,h1,h4⟩:=r1'
  -- the slots,one by one
  have sl:∀ {i j:Nat},Du as i=some j->i∈s.io/\j∈slots as s.io:=fun {i j} e=>by
    have hi:=(hs1 i (EX e)).mp (by rw [e];rfl);exact ⟨hi,List.mem_map.mpr ⟨i,hi,by rw [e];rfl⟩⟩
  have sl2:∀ {i:Nat},i∈s.io->∃ j,Du as i=some j:=fun {i} hi=>Option.isSome_iff_exists.mp ((hs1 i (by rw [hn];exact hio i hi)).mpr hi)
  have ndS:(slots as s.io).Nodup:=by
    unfold slots;rw [List.nodup_iff_pairwise_ne,List.pairwise_map];refine (List.nodup_iff_pairwise_ne.mp nd).imp_of_mem fun {a b} ha hb n z=>?_
    obtain ⟨ja,ea⟩:=sl2 ha;obtain ⟨jb,eb⟩:=sl2 hb;rw [ea,eb] at z;simp only [Option.getD_some] at z;subst z;exact n (hs2 a b ja ea eb)
  let Fa:Nat->Fp:=fun i a=>∃ j,Du as i=some j/\F j a
  have al:=ar.len;have rA:Rel K g1 H1 (Pu s.ps.length s.io) ds (vs.map some) fun a=>∃ i,Fa i a:=by
    refine ⟨zd,Fa,⟨by unfold Pu;simp;rw [al.1,hn],by unfold Pu;simp;rw [al.2,hn],fun i o ei=>?_,fun i ei a ⟨j,ej,_⟩=>?_,fun i i' n a ⟨j,ej,z⟩ ⟨j',ej',z'⟩=>?_⟩,fun _=>Iff.rfl⟩
    · obtain ⟨hi,eo⟩:=Dh ei;obtain ⟨d',v,d1,d2,z⟩:=ar.get (i:=i) (by rw [hn];exact hi);refine ⟨d',v,d1,by rw [List.getElem?_map,d2];rfl,?_⟩;rcases z with ⟨j,ej,rfl,hv⟩ | ⟨ej,z⟩
      · have:o=1:=by
          have:=Option.some.inj eo;rw [if_pos (List.contains_iff_mem.mpr (sl ej).1)] at this;exact this
        subst this;obtain ⟨d3,v3,e3,e4,r3⟩:=h1.rep j 1 (hl j (sl ej).2);rw [hv] at e4;cases e4;have eq:Fa i=F j:=funext fun a=>propext ⟨fun ⟨j',z,q⟩=>by rw [ej] at z;cases z;exact q,fun q=>⟨j,ej,q⟩⟩
        rw [Ic e3,eq];exact r3
      · have:o=0:=by
          have:=Option.some.inj eo;rw [if_neg fun w=>?_] at this
          · exact this
          · obtain ⟨j,w⟩:=sl2 (List.contains_iff_mem.mp w);rw [ej] at w;cases w
        subst this;have eq:Fa i=nop:=nop_iff fun a ⟨j,w,_⟩=>by rw [ej] at w;cases w
        rw [eq];exact z
    · refine ei (if s.io.contains i then 1 else 0) ?_;unfold Pu;rw [List.getElem?_map,List.getElem?_range (by rw [<- hn];exact EX ej)];rfl
    · by_cases w:j=j'
      · subst w;exact n (hs2 i i' j ej ej')
      · exact h1.dj j j' w a z z'
  let Fr:Nat->Fp:=fun j a=>j∉slots as s.io/\F j a
  have rr:Rel K g1 H1 (LY (slots as s.io) Γ') m1 σ fun a=>∃ j,Fr j a:=by
    refine ⟨zd,Fr,⟨by unfold LY;simp;exact h1.l1,by unfold LY;simp;exact h1.l2,fun j o ej=>?_,fun j ej a ⟨n,z⟩=>?_,fun i j n a q z=>h1.dj i j n a q.2 z.2⟩,fun _=>Iff.rfl⟩
    · obtain ⟨nj,ej⟩:=DF ej;obtain ⟨d',v,d1,d2,z⟩:=h1.rep j o ej;have eq:Fr j=F j:=funext fun a=>propext ⟨fun w=>w.2,fun w=>⟨nj,w⟩⟩
      exact ⟨d',v,d1,d2,by rw [eq];exact z⟩
    · refine h1.out j (fun o w=>ej o ?_) a z;unfold LY;have hj:=(List.getElem?_eq_some_iff.mp w).1;rw [List.getElem?_map,List.getElem?_range hj,Option.map_some,if_neg (fun q=>n (List.contains_iff_mem.mp q)),List.getD_eq_getElem?_getD,w];rfl
  have dA:Disj (fun a=>∃ j,Fr j a) fun a=>∃ i,Fa i a:=fun a ⟨j,nj,z⟩ ⟨i,j',ej,z'⟩=>by
    by_cases w:j=j'
    · subst w;exact nj (sl ej).2
    · exact h1.dj j j' w a z z'
  have okA:FpOk g1 H1 fun a=>∃ i,Fa i a:=rA.fpOk
  refine ⟨g1,ds,_,rA,d,bs,e1,fun g2 H2 v Pv Pb s2 rv hb n=>?_⟩;have rr2:=rr.held s2 okA dA;have dB:Disj (fun a=>∃ j,Fr j a) fun a=>Pv a\/Pb a:=s2.out rr.fpOk dA
  obtain ⟨zd2,Fq,q1,q4⟩:=rr2;obtain ⟨zb,Fb,b1,b4⟩:=hb;have lb:bs.length=s.io.length:=by have:=b1.l1;simpa using this
  have fq:∀ {a:Addr},(∃ j,Fr j a)↔∃ j,Fq j a:=fun {a}=>q4 a
  let Fz:Nat->Fp:=fun j a=>(∃ k,(slots as s.io)[k]?=some j/\Fb k a)\/Fq j a
  have nq:∀ j∈slots as s.io,∀ a,¬ Fq j a:=fun j hj=>q1.out j fun o w=>(DF w).1 hj
  have rz:Rel K g2 H2 Γ' (HY (slots as s.io) bs m1) σ fun a=>∃ j,Fz j a:=by
    refine ⟨zd2,Fz,⟨by rw [Gb];exact h1.l1,h1.l2,fun j o ej=>?_,fun j ej a z=>?_,fun i j n' a z w=>?_⟩,fun _=>Iff.rfl⟩
    · have hjl:j < m1.length:=by rw [h1.l1];exact (List.getElem?_eq_some_iff.mp ej).1
      by_cases hj:j∈slots as s.io
      · obtain ⟨kk,hk1⟩:=List.getElem?_of_mem hj;have hkk:kk < s.io.length:=by have:=(List.getElem?_eq_some_iff.mp hk1).1;unfold slots at this;simpa using this
        rw [hl j hj] at ej;cases ej;obtain ⟨b,u,c1,c2,c3⟩:=b1.rep kk 1 (by rw [List.getElem?_map,List.getElem?_eq_getElem hkk];rfl);have ei:(slots as s.io)[kk]?=some ((Du as s.io[kk]).getD 0):=by unfold slots;rw [List.getElem?_map,List.getElem?_eq_getElem hkk];rfl
        obtain ⟨jj,ejj⟩:=sl2 (List.getElem_mem hkk);rw [hk1,ejj] at ei;have ejj':j=jj:=Option.some.inj ei;subst ejj';obtain ⟨d3,v3,d1,d2,z3⟩:=ar.get (i:=s.io[kk]) (EX ejj);rw [List.getElem?_map,List.getElem?_eq_getElem hkk,Option.map_some,d2] at c2;have eu:u=v3:=by simpa using c2.symm
        subst eu;have hv:σ[j]?=some (some u):=by
          rcases z3 with ⟨j2,e2',_,z3⟩ | ⟨e2',_⟩
          · rw [ejj] at e2';cases e2';exact z3
          · rw [ejj] at e2';cases e2'
        have eq:Fz j=Fb kk:=funext fun a=>propext ⟨fun w=>w.elim (fun ⟨k',h',w⟩=>by
            have h1':=List.getElem?_eq_some_iff.mp hk1;have h2':=List.getElem?_eq_some_iff.mp h';have:k'=kk:=(List.getElem_inj (h₀:=h2'.1) (h₁:=h1'.1) ndS).mp (h2'.2.trans h1'.2.symm);exact this▸w) fun w=>(nq j hj a w).elim,fun w=>.inl ⟨kk,hk1,w⟩⟩
        exact ⟨b,u,NU _ bs m1 kk j b ndS hk1 c1 hjl,hv,by rw [eq];exact c3⟩
      · have ej':(LY (slots as s.io) Γ')[j]?=some (some o):=by
          unfold LY;rw [List.getElem?_map,List.getElem?_range (List.getElem?_eq_some_iff.mp ej).1,Option.map_some,if_neg (fun w=>hj (List.contains_iff_mem.mp w)),List.getD_eq_getElem?_getD,ej];rfl
        obtain ⟨d3,v3,d1,d2,r3⟩:=q1.rep j o ej';have eq:Fz j=Fq j:=funext fun a=>propext ⟨fun w=>w.elim (fun ⟨k',h',_⟩=>(hj (List.mem_of_getElem? h')).elim) id,.inr⟩
        exact ⟨d3,v3,by rw [EZ _ _ _ _ hj];exact d1,d2,by rw [eq];exact r3⟩
    · rcases z with ⟨k',h',z⟩ | z
      · exact ej 1 (hl j (List.mem_of_getElem? h'))
      · refine q1.out j (fun o w=>ej o (DF w).2) a z
    · rcases z with ⟨k1,h1',z⟩ | z
      · rcases w with ⟨k2,h2',w⟩ | w
        · by_cases kk:k1=k2
          · subst kk;rw [h1'] at h2';exact n' (Option.some.inj h2')
          · exact b1.dj k1 k2 kk a z w
        · exact dB a (fq.mpr ⟨j,w⟩) (.inr ((b4 a).mpr ⟨k1,z⟩))
      · rcases w with ⟨k2,h2',w⟩ | w
        · exact dB a (fq.mpr ⟨i,z⟩) (.inr ((b4 a).mpr ⟨k2,w⟩))
        · exact q1.dj i j n' a z w
  refine q d _ g2 _ Pv v H2 e2 (ag.trans (RH _ bs m1)) (st.trans ((s2.frame (R:=fun a=>∃ j,Fr j a)).sub (fun a z=>?_) fun a z=>?_)) rv rz fun a z w=>?_
  · rcases z with ⟨i,j,_,z⟩ | ⟨j,_,z⟩
    · exact (h4 a).mpr ⟨j,z⟩
    · exact (h4 a).mpr ⟨j,z⟩
  · rcases z with ⟨j,z⟩ | z
    · rcases z with ⟨k',_,z⟩ | z
      · exact .inl (.inr ((b4 a).mpr ⟨k',z⟩))
      · exact .inr (fq.mpr ⟨j,z⟩)
    · exact .inl (.inl z)
  · obtain ⟨j,z⟩:=z;rcases z with ⟨k',_,z⟩ | z
    · exact n a w ((b4 a).mpr ⟨k',z⟩)
    · exact dB a (fq.mpr ⟨j,z⟩) (.inl w)
noncomputable def UH:Dv->Bool
 | .non | .bl _ | .int _ | .str _=>true
 | _=>false
theorem Vf {g':G} {o o':Nat} {d:Dv} {v:V} {Pv:Fp} (h:Rep K g' H o d v Pv) (e:UH d=true):Rep K g H o' d v nop:=by
 cases d with
 | non=>unfold Rep at h ⊢;exact ⟨h.1,fun _ z=>z⟩
 | bl b=>unfold Rep at h ⊢;exact ⟨h.1,fun _ z=>z⟩
 | int i=>unfold Rep at h ⊢;exact ⟨h.1,fun _ z=>z⟩
 | str l=>unfold Rep at h ⊢;exact ⟨h.1,fun _ z=>z⟩
 | _=>cases e
theorem Ak.fz (r:Rel K g H Γ m σ P):∀ {as:List Ar} {ds:List Dv} {vs:List V},Ak K g H Γ m σ as ds vs->Reps K (g.add P) H 0 ds vs nop
 | [],ds,vs,h=>by unfold Ak at h;obtain ⟨rfl,rfl⟩:=h;exact Reps.nil
 | .ev _ _ _ f::as,ds,vs,h=>by
  unfold Ak at h;obtain ⟨d,v,ds',vs',rfl,rfl,h1,h2⟩:=h;exact (Reps.cons (h1.freeze (P:=P) fun _ z=>z.elim) (Ak.fz r h2) fun _ z=>z.elim).iff fun a=>⟨fun z=>z.elim,fun z=>z.elim id id⟩
 | .rf i::as,ds,vs,h=>by
  unfold Ak at h;obtain ⟨v,ds',vs',rfl,rfl,h1,⟨o,_,ho⟩,h3⟩:=h;obtain ⟨v',P1,e,k,sb⟩:=r.see ho;rw [h1] at e;cases e;exact (Reps.cons (k.freeze (P:=P) sb) (Ak.fz r h3) fun _ z=>z.elim).iff fun a=>⟨fun z=>z.elim,fun z=>z.elim id id⟩
theorem Vj {n:Nat} {ds:List Dv} {vs:List V} (zd:Zd g H) (h:Reps K g H 0 ds vs nop) (hn:ds.length=n):Rel K g H (Pu n []) ds (vs.map some) nop:=by
 refine ⟨zd,fun _=>nop,⟨by unfold Pu;simp [hn],by unfold Pu;simp [<- hn,h.len],fun i o e=>?_,fun i e a z=>z,fun i j n a z=>z.elim⟩,fun a=>⟨fun z=>z.elim,fun ⟨i,z⟩=>z⟩⟩;obtain ⟨hi,e⟩:=Dh e;have eo:o=0:=(Option.some.inj e);subst eo;obtain ⟨v,_,ev,rv,_⟩:=h.get (List.getElem?_eq_getElem (by omega:i < ds.length));exact ⟨_,v,List.getElem?_eq_getElem (by omega),by rw [List.getElem?_map,ev];rfl,rv.z⟩
def JW (s:Sig) (as:List Ar):Ev Dv:=fun R m k=>AQ as R m fun ds m1=>s.cps R ds fun d _=>bif UH d then k d m1 else none
theorem PM {s:Sig} (c:AC Γ as Γ' js) (hs:s.io=[]) (hn:as.length=s.ps.length) {Q:VK} (h:tE K Γ 1 Γ' js (JW s as) σ H Q):Bn K as σ H fun vs H1=>UF K s vs H1 Q E0:=by
 obtain ⟨g,m,P,r,R,k,res,e,q⟩:=h;refine AI as r c e fun ds m1 g1 P1 vs H1 hk ag st ar r1=>?_
 rw [s.eq] at hk;obtain ⟨⟨d,bs⟩,e1,e2⟩:=bind_some' hk;cases c:UH d with
 | false=>simp only [c,cond_false] at e2;cases e2
 | true =>
  simp only [c,cond_true] at e2;have fs:Step g1 P1 H1 (g1.add P1) nop H1:=Step.freeze r1.fpOk;refine ⟨g1.add P1,ds,nop,by rw [hs];exact Vj (fs.zd r1.zd) (ar.fz r1) (ar.len.1.trans hn),d,bs,e1,fun g' H' v Pv Pb s2 rv _ _=>?_⟩;have sm:Pm H1 H':=fun b o hb=>s2.keep b o hb fun z=>z
  exact q d m1 g1 P1 nop v H' e2 ag ((st.trans (Step.same sm)).less fun _ z=>z.elim id False.elim) (Vf rv c) (r1.same sm) fun _ _ z=>z
end
noncomputable abbrev Mu:=Dv->List Dv->Option (Dv×Dv)
def Mw (K:W.Frag) (p:Mu) (R:V->List V->Hp->VK->Prop):Prop:=∀ g H x v P ds us r y Q,Zd g H->Rep K g H 1 x v P->Reps K g H 0 ds us nop->p x ds=some (r,y) ->
 (∀ w H' P',Step g P H g P' H'->Rep K g H' 1 y v P'->Rep K g H' 0 r w nop->Q w H')->R v us H Q
noncomputable def kind:Dv->String
 | .lst _ => "list"
 | .scr _ => "list"
 | .str _ => "str"
 | .int _ => "int"
 | .dti _ => "dict"
 | .tup _ => "tuple"
 | _ => "?"
def Gq {α:Type} (T:String) (d:Dv) (o:Option α):Option α:=if kind d=T then o else none
theorem DV {α:Type} {T:String} {d:Dv} {o:Option α} {a:α} (h:Gq T d o=some a):kind d=T/\o=some a:=by
 unfold Gq at h;split at h
 ·rename_i z;exact ⟨z,h⟩
 ·cases h
def SR (T:String) (i:Nat) (p:Mu) (fa:Ev (List Dv)):Ev Dv:=fun R m k=>Gq T (m.at i) (fa R m fun ds m1=>(p (m1.at i) ds).bind fun r=>k r.1 (m1.set i r.2))
section
variable {K:W.Frag} {g:G} {H:Hp} {σ:St} {Γ Γ':Gm} {js:List Nat} {as:List Ar}
theorem Li {o:Nat} {d:Dv} {v:V} {P:Fp} {T:String} (h:Rep K g H o d v P) (e:kind d=T) (hT:T = "list" \/ T = "str" \/ T = "int" \/ T = "dict"):fL K T v H:=by
 subst e;cases d with
 | lst ds=>unfold Rep at h;obtain ⟨a,vs,P',rfl,h1,_⟩:=h;exact .inl ⟨rfl,vs,.inl (.inl h1.1)⟩
 | scr ns=>unfold Rep at h;obtain ⟨⟨a,rfl,h1⟩,_⟩:=h;exact .inl ⟨rfl,_,h1.sq⟩
 | str l=>unfold Rep at h;rw [h.1];rfl
 | int i=>unfold Rep at h;rw [h.1];rfl
 | dti l=>unfold Rep at h;obtain ⟨a,rfl,h1,_⟩:=h;exact .inr (.inr (.inl ⟨rfl,.inr ⟨_,h1⟩⟩))
 | _=>rcases hT with h | h | h | h<;>simp [kind] at h
theorem Vg {T:String} {i:Nat} {p:Mu} {R:V->List V->Hp->VK->Prop} (hR:Mw K p R) (hT:T = "list" \/ T = "str" \/ T = "int" \/ T = "dict") (c:AC Γ as Γ' js) (he:evd as=true) (h0:∃ o,Γ[i]?=some (some o)) (hi:Γ'[i]?=some (some 1)) {Q:VK}
    (h:tE K Γ 0 Γ' (js++[i]) (SR T i p (AQ as)) σ H Q):cC K T R (HS i) (Bn K as) σ H Q:=by
  obtain ⟨g,m,P,r,R',k,res,e,q⟩:=h;obtain ⟨e0,e⟩:=DV e;obtain ⟨o0,h0⟩:=h0;obtain ⟨v0,P0,ev0,rv0,_⟩:=r.see h0;refine ⟨v0,ev0,Li rv0 e0 hT,AI as r c e fun ds m1 g1 P1 vs H1 hk ag s ar r1=>?_⟩;obtain ⟨⟨rs,y⟩,e1,e2⟩:=bind_some' hk;obtain ⟨v,Pa,Pr,ev,em,rv,r2,n,hP⟩:=r1.take hi;rw [ev0] at ev;cases ev;refine hR g1 H1 _ v0 Pa ds vs rs y Q r1.zd rv (ar.reps he) e1 fun w H2 P' s2 ry rr=>?_
  have r3:=r2.held s2 rv.fpOk fun a q z=>n a z q
  have n3:=s2.out r2.fpOk fun a q z=>n a z q
  have hil:i < Γ'.length:=(List.getElem?_eq_some_iff.mp hi).1;obtain ⟨P4,r4,sp⟩:=r3.putIn hil ev0 ry fun a q z=>n3 a z q
  rw [GN hi] at r4;refine q rs _ g1 P4 nop w H2 e2 (ag.trans BW.set) (s.trans ((s2.frame (R:=Pr)).sub (fun a z=>(hP a).mpr z) fun a z=>z.elim (fun z=>sp a z) False.elim)) rr r4 fun _ _ z=>z
theorem Step.upd {a:Addr} {o:HO} {P':Fp} (h:H a≠none) (hs:∀ b,P' b->b=a\/H b=none):Step g (fun b=>b=a) H g P' (upd H a o):=by
 have dm:∀ b,L2.upd H a o b=none->H b=none:=fun b q=>by
  by_cases hb:b=a
  ·subst hb;rw [Bh] at q;cases q
  ·rw [AL hb] at q;exact q
 exact ⟨fun b u q n=>by rw [AL n];exact q,dm,fun _ q=>q,fun _ q=>.inl q,⟨[],by simp⟩,hs,fun z b q e=>z b q (dm b e)⟩
theorem Dm {xs:List Dv} {v:V} {P:Fp} (h:Rep K g H 1 (.lst xs) v P):∃ a vs,v=.ref a/\H a=some (.lst vs)/\¬ g.Z a/\Reps K g H 0 xs vs nop/\(∀ b,P b↔b=a) /\
    ∀ ws,Step g P H g P (upd H a (.lst ws))/\(∀ {d:Dv} {u:V},Rep K g H 0 d u nop->Rep K g (upd H a (.lst ws)) 0 d u nop)/\∀ ys,Reps K g H 0 ys ws nop->Rep K g (upd H a (.lst ws)) 1 (.lst ys) (.ref a) P:=by
  unfold Rep at h;obtain ⟨a,vs,P',rfl,h1,h2,h3,h5⟩:=h;have hP:∀ b,P b↔b=a:=fun b=>by rw [h5 b];exact ⟨fun z=>z.elim (fun z=>z.2) fun z=>(h2.none0 b z).elim,fun z=>.inl ⟨by decide,z⟩⟩
  have eP:P=fun b=>b=a:=funext fun b=>propext (hP b)
  have hz:=h1.2.2 (by decide);have oka:FpOk g H fun b=>b=a:=fun b q=>by subst q;exact ⟨by rw [h1.1];trivial,hz⟩
  refine ⟨a,vs,rfl,h1.1,hz,h2.z,hP,fun ws=>?_⟩;have st:Step g (fun b=>b=a) H g (fun b=>b=a) (upd H a (.lst ws)):=Step.upd (by rw [h1.1];simp) fun b z=>.inl z
  refine ⟨by rw [eP];exact st,fun r=>r.held st oka fun _ z=>z.elim,fun ys r=>?_⟩;unfold Rep;exact ⟨a,ws,nop,rfl,⟨Bh,(fun z=>by cases z),fun _=>hz⟩,r.held st oka fun _ z=>z.elim,fun z=>z,fun b=>by rw [hP b];exact ⟨fun z=>.inl ⟨by decide,z⟩,fun z=>z.elim (fun z=>z.2) False.elim⟩⟩
theorem CK:∀ {ds:List Dv} {vs:List V},Reps K g H 0 ds vs nop↔ds.length=vs.length/\∀ (i:Nat) (d:Dv) (v:V),ds[i]?=some d->vs[i]?=some v->Rep K g H 0 d v nop
 | [],vs=>⟨fun h=>⟨h.len,fun i d v e=>by simp at e⟩,fun h=>by
  have:vs=[]:=List.eq_nil_of_length_eq_zero h.1.symm;subst this;exact Reps.nil⟩
 | x::xs,vs=>by
  refine ⟨fun h=>⟨h.len,fun i d v e1 e2=>?_⟩,fun h=>?_⟩
  ·obtain ⟨v',P,e',r,_⟩:=h.get e1;rw [e2] at e';cases e';exact r.z
  ·cases vs with
   | nil=>simp at h
   | cons v vs =>
    exact (Reps.cons (h.2 0 x v rfl rfl) (CK.mpr ⟨by simpa using h.1,fun i d u e1 e2=>h.2 (i+1) d u (by simpa using e1) (by simpa using e2)⟩) fun _ z=>z.elim).iff fun a=>⟨fun z=>z.elim,fun z=>z.elim id id⟩
theorem Ax {ds es:List Dv} {vs us:List V} (h:Reps K g H 0 ds vs nop) (k:Reps K g H 0 es us nop):Reps K g H 0 (ds++es) (vs++us) nop:=(Reps.app h k fun _ z=>z.elim).iff fun a=>⟨fun z=>z.elim,fun z=>z.elim id id⟩
theorem BK {d:Dv} {v:V} (h:Rep K g H 0 d v nop):Reps K g H 0 [d] [v] nop:=(Reps.cons h Reps.nil fun _ z=>z.elim).iff fun a=>⟨fun z=>z.elim,fun z=>z.elim id id⟩
theorem AN {d:Dv} {ds:List Dv} {vs:List V} (h:Reps K g H 0 (d::ds) vs nop):∃ v us,vs=v::us/\Rep K g H 0 d v nop/\Reps K g H 0 ds us nop:=by
 unfold Reps at h;obtain ⟨v,r,P1,P2,rfl,h1,h2,_⟩:=h;exact ⟨v,r,rfl,h1.z,h2.z⟩
theorem AR {vs:List V} (h:Reps K g H 0 [] vs nop):vs=[]:=by unfold Reps at h;exact h.1
theorem OV {ds:List Dv} {vs:List V} {d:Dv} {v:V} (j:Nat) (h:Reps K g H 0 ds vs nop) (r:Rep K g H 0 d v nop):Reps K g H 0 (ds.set j d) (vs.set j v) nop:=by
 have h0:=CK.mp h;refine CK.mpr ⟨by simp [h0.1],fun i x y e1 e2=>?_⟩;rcases Dd e1 with ⟨rfl,rfl⟩ | ⟨n,e1⟩
 ·rcases Dd e2 with ⟨_,rfl⟩ | ⟨n,_⟩
  ·exact r
  ·exact (n rfl).elim
 ·rcases Dd e2 with ⟨z,_⟩ | ⟨_,e2⟩
  ·exact (n z).elim
  ·exact h0.2 i x y e1 e2
theorem Dj {o:Nat}:Rep K g H o .non .non nop:=by unfold Rep;exact ⟨rfl,fun _ z=>z⟩
noncomputable def Ao (x:Dv) (ds:List Dv):Option (Dv×Dv):=match x,ds with
 | .lst xs,[d]=>if xs.length<=1000000 then some (.non,.lst (xs++[d])) else none
 | _,_=>none
noncomputable def bO (x:Dv) (ds:List Dv):Option (Dv×Dv):=match x,ds with
 | .lst xs,[]=>match xs.getLast? with
  | some d=>some (d,.lst xs.dropLast)
  | none=>none
 | _,_=>none
noncomputable def DH (x:Dv) (ds:List Dv):Option (Dv×Dv):=match x,ds with
 | .lst xs,[.lst ys]=>if xs.length+ys.length<=1000000 then some (.non,.lst (xs++ys)) else none
 | _,_=>none
theorem Oo:Mw K Ao NT:=fun g H x v P ds us r y Q zd rx rd e k=>by
 unfold Ao at e;split at e
 ·rename_i xs d;split at e
  ·rename_i hl;cases e;obtain ⟨a,vs,rfl,ha,hz,hx,hP,go⟩:=Dm rx;obtain ⟨u,us',rfl,hu,h2⟩:=AN rd;cases AR h2;obtain ⟨s,hd,mk⟩:=go (vs++[u]);exact ⟨a,vs,u,rfl,rfl,ha,Nat.lt_of_le_of_lt (by rw [<- hx.len];exact hl) (by decide),k _ _ P s (mk _ (Ax hx (BK hu))) Dj⟩
  ·cases e
 ·cases e
theorem Zo:Mw K bO cm:=fun g H x v P ds us r y Q zd rx rd e k=>by
 unfold bO at e;split at e
 ·rename_i xs;split at e
  ·rename_i d el;cases e;obtain ⟨a,vs,rfl,ha,hz,hx,hP,go⟩:=Dm rx;cases AR rd;obtain ⟨s,hd,mk⟩:=go vs.dropLast;have h0:=CK.mp hx;rw [List.getLast?_eq_getElem?] at el;obtain ⟨u,P1,e2,r2,_⟩:=hx.get el;refine ⟨a,vs,u,rfl,rfl,ha,by rw [<- h0.1];exact e2,k _ _ P s (mk _ ?_) (hd r2.z)⟩;refine CK.mpr ⟨by simp [h0.1],fun i d v e3 e4=>?_⟩;rw [List.getElem?_dropLast] at e3 e4;split at e3
   ·split at e4
    ·exact h0.2 i d v e3 e4
    ·cases e4
   ·cases e3
  ·cases e
 ·cases e
theorem On:Mw K DH NS:=fun g H x v P ds us r y Q zd rx rd e k=>by
 unfold DH at e;split at e
 ·rename_i xs ys;split at e
  ·rename_i hl;cases e;obtain ⟨a,vs,rfl,ha,hz,hx,hP,go⟩:=Dm rx;obtain ⟨u,us',rfl,hu,h2⟩:=AN rd;cases AR h2;unfold Rep at hu;obtain ⟨b,ws,P',rfl,h1,h3,_⟩:=hu;obtain ⟨s,hd,mk⟩:=go (vs++ws);exact ⟨a,b,vs,ws,rfl,rfl,ha,h1.1,Nat.le_trans (by rw [<- hx.len,<- h3.len];exact hl) (by decide),k _ _ P s (mk _ (Ax hx h3.z)) Dj⟩
  ·cases e
 ·cases e
end
def Xn (i:Nat) (p:Dv->Dv->Dv->Option Dv) (f:Ev Dv) (fk:Ev (List Dv)):Es:=fun R m k=>f R m fun d m1=>fk R m1 fun ks m2=>match ks with | [j]=>(p (m2.at i) j d).bind fun y=>k.nx (m2.set i y) | _=>none
def BD (x k d:Dv):Option Dv:=match x,k with
 | .lst xs,.int k=>(MS xs.length k).bind fun j=>some (.lst (xs.set j d))
 | _,_=>none
def bR (K:W.Frag) (p:Dv->Dv->Dv->Option Dv) (T:UA):Prop:=∀ g H x v P j vj d u y (Q:Hp->Prop),Zd g H->Rep K g H 1 x v P->RA K g H [j] [vj]->Rep K g H 0 d u nop->p x j d=some y->(∀ H' P',Step g P H g P' H'->Rep K g H' 1 y v P'->Q H')->T v vj u H Q
theorem Yd {K:W.Frag}:bR K BD RD:=fun g H x v P j vj d u y Q zd rx rj rd e q=>by
 unfold BD at e;split at e
 ·rename_i xs kk;obtain ⟨jj,ej,e⟩:=bind_some' e;cases e;obtain ⟨a,vs,rfl,ha,hz,hx,hP,go⟩:=Dm rx;unfold RA at rj;obtain ⟨w,wr,o,Po,ew,_,rw',_⟩:=rj;cases ew;rw [rep_int rw'];obtain ⟨s,hd,mk⟩:=go (vs.set jj u);exact ⟨a,vs,kk,jj,rfl,rfl,ha,by rw [<- hx.len];exact ej,q _ P s (mk _ (OV jj hx rd))⟩
 ·cases e
section
variable {K:W.Frag} {F:Fr} {Γl:Option Gm} {Γ Γ1 Γ':Gm} {js js2:List Nat} {i:Nat} {f:Ev Dv} {a:Ar} {p:Dv->Dv->Dv->Option Dv} {T:UA}
theorem Qt (hp:bR K p T) (c:AC Γ1 [a] Γ' js2) (h0:∃ o,Γ1[i]?=some (some o)) (hi:Γ'[i]?=some (some 1)) {D:Ends} {σ:St} {H:Hp} (h:tS K F Γl Γ (some Γ') (js++(js2++[i])) (Xn i p f (AQ [a])) D σ H):Lq (tE K Γ 0 Γ1 js f) (dz (HS i) (HN K a) T) D σ H:=by
 obtain ⟨g,m,P,r,R,k,res,e,q⟩:=h;refine ⟨g,m,P,r,R,_,res,e,fun d m1 g1 P1 Pv u H1 hk ag s rv r1 n=>?_⟩;obtain ⟨o0,h0⟩:=h0;obtain ⟨v0,P0,ev0,_,_⟩:=r1.see h0;refine ⟨v0,ev0,?_⟩;have rz:=rv.z;have s':Step g P H g1 P1 H1:=s.less fun _ z=>.inl z
 have key:Bn K [a] σ H1 fun vs H2=>∃ w,vs=[w]/\T v0 w u H2 fun H3=>D.nx σ H3:=by
  refine AI [a] r1 c hk fun ds m2 g2 P2 vs H2 hk2 ag2 s2 ar r2=>?_
  have al:=ar.len;have ra:=ar.ra r2
  match ds,al.1,hk2,ra with
  | [j],_,hk2,ra =>
   have ra0:=ra;unfold RA at ra;obtain ⟨w,wr,o,Po,rfl,_,h1,h2⟩:=ra;unfold RA at h2;subst h2;obtain ⟨y,e1,e2⟩:=bind_some' hk2;obtain ⟨v,Pa,Pr,ev,em,rx,r3,n3,hP⟩:=r2.take hi;rw [ev0] at ev;cases ev;refine ⟨w,rfl,hp g2 H2 _ v0 Pa j w d u y _ r2.zd rx ra0 (rz.held s2 r1.fpOk fun _ z=>z.elim) e1 fun H3 P' s3 ry=>?_⟩;have r4:=r3.held s3 rx.fpOk fun a q z=>n3 a z q
   have n4:=s3.out r3.fpOk fun a q z=>n3 a z q
   obtain ⟨P5,r5,sp⟩:=r4.putIn (List.getElem?_eq_some_iff.mp hi).1 ev0 ry fun a q z=>n4 a z q
   rw [GN hi] at r5;exact q.nx Γ' _ g2 P5 σ H3 rfl e2 (ag.trans (ag2.trans BW.set)) ((s'.trans s2).trans ((s3.frame (R:=Pr)).sub (fun a z=>(hP a).mpr z) fun a z=>sp a z)) Io.refl r5
 have mono:∀ (Q1 Q2:VK),(∀ v H,Q1 v H->Q2 v H)->HN K a σ H1 Q1->HN K a σ H1 Q2:=by
  intro Q1 Q2 h12 t;cases a with
  | ev Γa Γb ja fa =>
   obtain ⟨g,m,P,r,R,k,res,e,q⟩:=t;exact ⟨g,m,P,r,R,k,res,e,fun d m' g' P' Pv v H' h1 h2 h3 h4 h5 h6=>h12 _ _ (q d m' g' P' Pv v H' h1 h2 h3 h4 h5 h6)⟩
  | rf i=>obtain ⟨v,e,q⟩:=t;exact ⟨v,e,h12 _ _ q⟩
 refine mono _ _ (fun v H2 z=>?_) key;obtain ⟨w,ew,z⟩:=z;cases ew;exact z
end
def SS (T:String) (a:Ar) (as:List Ar) (p:Pr):Ev Dv:=match a with
 | .rf i=>fun R m k=>Gq T (m.at i) (AQ as R m fun ds m1=>(p (m1.at i::ds)).bind fun d=>k d m1)
 | .ev _ _ _ f=>fun R m k=>f R m fun x m1=>Gq T x (AQ as R m1 fun ds m2=>(p (x::ds)).bind fun d=>k d m2)
def bU (r:V->List V->Hp->VK->Prop):UB:=fun vs H Q=>match vs with | x::us=>r x us H Q | _=>False
theorem Zp {K:W.Frag} {σ:St} {H:Hp} {Γ Γ':Gm} {js:List Nat} {T:String} {a:Ar} {as:List Ar} {p:Pr} {o:Nat} {r:V->List V->Hp->VK->Prop} (hp:AE K p o (bU r)) (hT:T = "list" \/ T = "str" \/ T = "int" \/ T = "dict") (c:AC Γ (a::as) Γ' js) {Q:VK}
    (h:tE K Γ o Γ' js (SS T a as p) σ H Q):cC K T r (HN K a) (Bn K as) σ H Q:=by
  obtain ⟨g,m,P,rl,R',k,res,e,q⟩:=h;cases a with
  | rf i =>
    obtain ⟨e0,e⟩:=DV e;unfold AC at c;obtain ⟨⟨o0,h0⟩,⟨o1,hl1,h1⟩,c⟩:=c;obtain ⟨v0,P0,ev0,rv0,_⟩:=rl.see h0;refine ⟨v0,ev0,Li rv0 e0 hT,AI as rl c e fun ds m1 g1 P1 vs H1 hk ag s ar r1=>?_⟩;obtain ⟨d,e1,e2⟩:=bind_some' hk;obtain ⟨v1,P1',ev1,rv1,_⟩:=r1.see h1;rw [ev0] at ev1;cases ev1;refine hp g1 H1 _ (v0::vs) d Q r1.zd (by unfold RA;exact ⟨v0,vs,o1,P1',rfl,hl1,rv1,ar.ra r1⟩) e1 fun v H2 nw=>?_
    obtain ⟨Pv,s2,h1,r2,n2⟩:=AV.go s r1 nw;exact q d m1 g1 P1 Pv v H2 e2 ag s2 h1 r2 n2
  | ev Γ1 Γ2 js1 f =>
    unfold AC at c;obtain ⟨rfl,js2,rfl,c⟩:=c;refine ⟨g,m,P,rl,R',_,res,e,fun x m1 g1 P1 Pv v0 H1 hk ag s rv r1 n=>?_⟩;obtain ⟨e0,hk⟩:=DV hk;have rz:=rv.z;have s':Step g P H g1 P1 H1:=s.less fun _ z=>.inl z
    refine ⟨Li rz e0 hT,AI as r1 c hk fun ds m2 g2 P2 vs H2 hk2 ag2 s2 ar r2=>?_⟩;obtain ⟨d,e1,e2⟩:=bind_some' hk2;refine hp g2 H2 _ (v0::vs) d Q r2.zd (by unfold RA;exact ⟨v0,vs,0,nop,rfl,by decide,rz.held s2 r1.fpOk fun _ z=>z.elim,ar.ra r2⟩) e1 fun v H3 nw=>?_
    obtain ⟨Pw,s3,h1,r3,n3⟩:=AV.go (s'.trans s2) r2 nw;exact q d m2 g2 P2 Pw v H3 e2 (ag.trans ag2) s3 h1 r3 n3
theorem Vi {K:W.Frag} {σ:St} {H:Hp} {Γ Γ':Gm} {js:List Nat} {a:Ar} {as:List Ar} {p:Pr} {o:Nat} {r:V->List V->Hp->VK->Prop} (hp:AE K p o (bU r)) (c:AC Γ (a::as) Γ' js) {Q:VK}
    (h:tE K Γ o Γ' js (SS "tuple" a as p) σ H Q):gI r (HN K a) (Bn K as) σ H Q:=by
  obtain ⟨g,m,P,rl,R',k,res,e,q⟩:=h
  have ty:∀ {g:G} {H:Hp} {o:Nat} {d:Dv} {v:V} {P:Fp},Rep K g H o d v P->kind d = "tuple" -> ∃ a us,v=.ref a/\H a=some (.tup us):=fun {g H o d v P} h e=>by
    cases d with
    | tup ds=>unfold Rep at h;obtain ⟨a,vs,rfl,h1,_⟩:=h;exact ⟨a,vs,rfl,h1⟩
    | _=>simp [kind] at e
  cases a with
  | rf i =>
    obtain ⟨e0,e⟩:=DV e;unfold AC at c;obtain ⟨⟨o0,h0⟩,⟨o1,hl1,h1⟩,c⟩:=c;obtain ⟨v0,P0,ev0,rv0,_⟩:=rl.see h0;refine ⟨v0,ev0,ty rv0 e0,AI as rl c e fun ds m1 g1 P1 vs H1 hk ag s ar r1=>?_⟩;obtain ⟨d,e1,e2⟩:=bind_some' hk;obtain ⟨v1,P1',ev1,rv1,_⟩:=r1.see h1;rw [ev0] at ev1;cases ev1;refine hp g1 H1 _ (v0::vs) d Q r1.zd (by unfold RA;exact ⟨v0,vs,o1,P1',rfl,hl1,rv1,ar.ra r1⟩) e1 fun v H2 nw=>?_
    obtain ⟨Pv,s2,h1,r2,n2⟩:=AV.go s r1 nw;exact q d m1 g1 P1 Pv v H2 e2 ag s2 h1 r2 n2
  | ev Γ1 Γ2 js1 f =>
    unfold AC at c;obtain ⟨rfl,js2,rfl,c⟩:=c;refine ⟨g,m,P,rl,R',_,res,e,fun x m1 g1 P1 Pv v0 H1 hk ag s rv r1 n=>?_⟩;obtain ⟨e0,hk⟩:=DV hk;have rz:=rv.z;have s':Step g P H g1 P1 H1:=s.less fun _ z=>.inl z
    refine ⟨ty rz e0,AI as r1 c hk fun ds m2 g2 P2 vs H2 hk2 ag2 s2 ar r2=>?_⟩;obtain ⟨d,e1,e2⟩:=bind_some' hk2;refine hp g2 H2 _ (v0::vs) d Q r2.zd (by unfold RA;exact ⟨v0,vs,0,nop,rfl,by decide,rz.held s2 r1.fpOk fun _ z=>z.elim,ar.ra r2⟩) e1 fun v H3 nw=>?_
    obtain ⟨Pw,s3,h1,r3,n3⟩:=AV.go (s'.trans s2) r2 nw;exact q d m2 g2 P2 Pw v H3 e2 (ag.trans ag2) s3 h1 r3 n3
def evOr (f g:Ev Dv):Ev Dv:=fun R m k=>(f R m k).or (g R m k)
theorem YS {K:W.Frag} {Γ Γ':Gm} {js:List Nat} {σ:St} {H:Hp} {o:Nat} {f g:Ev Dv} {Q:VK} (h:tE K Γ o Γ' js (evOr f g) σ H Q):tE K Γ o Γ' js f σ H Q\/tE K Γ o Γ' js g σ H Q:=by
 obtain ⟨g0,m,P,r,R,k,res,e,q⟩:=h;unfold evOr at e;cases e1:f R m k with
 | some z=>rw [e1] at e;exact .inl ⟨g0,m,P,r,R,k,z,e1,by cases e;exact q⟩
 | none=>rw [e1] at e;exact .inr ⟨g0,m,P,r,R,k,res,e,q⟩
def Gx (X:Cx):Prop:=X.calm=true/\∃ j,Room j X.A
noncomputable def two {α:Type} (f:Dv->Dv->Option α) (ds:List Dv):Option α:=match ds with | [a,b]=>f a b | _=>none
noncomputable def one {α:Type} (f:Dv->Option α) (ds:List Dv):Option α:=match ds with | [a]=>f a | _=>none
noncomputable def Ae:Expr->Bool
 | .Starred _ _=>false
 | _=>true
structure BinE where
 op:Operator
 f:Dv->Dv->Option Dv
 ok:∀ X,Gx X->∃ r,CN X (binaryOp op) r/\AE X.K (two f) 1 (HP r)
structure CmpE where
 op:CmpOp
 f:Dv->Dv->Option Bool
 ok:∀ X,Gx X->∃ r,CN X (compareOp op) r/\AE X.K (fun ds=>(two f ds).map .bl) 0 (HP r)
structure CallE where
 x:Str
 n:Nat
 o:Nat
 f:List Dv->Option Dv
 ok:∀ X,Gx X->∃ r,AE X.K f o r/\((∃ id,BC X (.builtin id) r/\bootBuiltins x=some (.builtin id))\/∃ T,BC X (.type T) r/\bootBuiltins x=some (.type T))
abbrev iK (T:String):Prop:=T = "list" \/ T = "str" \/ T = "int" \/ T = "dict"
structure MethE where
 x:Str
 n:Nat
 T:String
 o:Nat
 f:List Dv->Option Dv
 hT:iK T\/T = "tuple" /\ n=1
 ok:∀ X,Gx X->∃ id r,PlainAttrs T/\Slot T x id/\typeOf (.builtin id)=pure (.type "method_descriptor")/\bT X id r/\AE X.K f o (bU r)
structure MutE where
 x:Str
 n:Nat
 T:String
 p:Mu
 hT:iK T
 ok:∀ X,Gx X->∃ id r,PlainAttrs T/\Slot T x id/\typeOf (.builtin id)=pure (.type "method_descriptor")/\bT X id r/\Mw X.K p r
noncomputable def LA:Expr->Bool
 | .Tuple _ _ _=>true
 | _=>false
structure SrcE where
 x:Str
 n:Nat
 tt:Bool
 f:List Dv->Option (List Dv)
 ok:∀ X,Gx X->∃ r,Jw X.K f r/\∀ tg es p pos ta,(tt=true->LA tg=true)->es.length=n->es.all Ae=true->Gl X x->X.mg x=none->PA X es ta->PI X tg (.Call (.Name x p) es [] pos) (Xh r ta)
def iJ:UB:=fun vs H1 Q=>KM (fun _ H R=>R vs H) [] H1 Q
def iG (K:W.Frag):R2:=fun x y H2 Q=>∃ a xs b,x=.ref a/\y=.int (-1)/\DK K H2 a xs b/\∀ p,H2 p=none->Q (.ref p) (upd H2 p (bif b then .tup xs.reverse else .lst xs.reverse))
def iH (K:W.Frag):V->Hp->VK->Prop:=fun v H1 Q=>∃ a xs,v=.ref a/\Bq K H1 a xs/\∀ l,H1 l=none->Q (.ref l) (upd H1 l (.lst xs.reverse))
structure Tb where
 bins:List BinE
 cmps:List CmpE
 calls:List CallE
 meths:List MethE
 muts:List MutE
 srcs:List SrcE
 ix:Dv->Dv->Option Dv
 ixok:∀ X,Gx X->∃ r,Pz X r/\AE X.K (two ix) 0 (HP r)
 sl:Dv->Option Int->Option Int->Option Dv
 slok:∀ X,Gx X->∃ r,Py X r/\∀ lo hi,AE X.K (one fun d=>sl d lo hi) 1 (bf fun x H Q=>r x lo hi H Q)
 tru:Dv->Option Bool
 trok:∀ K g H o d v P b,Rep K g H o d v P->tru d=some b->Tz K v H b
 lr:List Dv->Option Dv
 lrok:∀ X,Gx X->AE X.K lr 1 iJ
 rv:Dv->Dv->Option Dv
 rvok:∀ X,Gx X->AE X.K (two rv) 1 (HP (iG X.K))
 lv:Dv->Option Dv
 lvok:∀ X,Gx X->AE X.K (one lv) 1 (bf (iH X.K))
 st:Dv->Dv->Dv->Option Dv
 stok:∀ X,Gx X->∃ T,Wy X T/\bR X.K st T
structure Cf:Type 1 where
 N:List Str
 sc:Scope
 fn:Str->Bool
 fs:List (Str×Sig)
 cs:List (Str×Dv)
 bl:List Str
 T:Tb
 F:Fr
structure Cok (C:Cf) (X:Cx):Prop where
 N:X.N=C.N
 sc:X.env.scope=C.sc
 nd:X.N.Nodup
 calm:X.calm=true
 fn:∀ x,C.fn x=true->X.fn x=true
 room:Gx X
 fs:∀ x s,(x,s)∈C.fs->s.io.Nodup/\(∀ i∈s.io,i < s.ps.length)/\∃ j k,j<=k/\Room k X.A/\Fx X.prog X.w X.K X.mg X.base j x s.ps (UF X.K s)
 cs:∀ x d,(x,d)∈C.cs->∃ v u,X.mg x=some u/\RelV v u/\∀ g H,Rep X.K g H 0 d v nop
 bl:∀ x∈C.bl,X.mg x=none
 xe:X.xe=fun _ _=>False
noncomputable def Cw:List Str->Str->Option Nat
 | [],_=>none
 | y::r,x=>if y == x then some 0 else (Cw r x).map (·+1)
theorem BY:∀ {N:List Str} {x:Str} {i:Nat},Cw N x=some i->N[i]?=some x
 | [],_,_,h=>by cases h
 | y::r,x,i,h=>by
  unfold Cw at h;split at h
  ·rename_i e;cases h;rw [beq_iff_eq.mp e];rfl
  ·cases q:Cw r x with
   | none=>rw [q] at h;cases h
   | some j=>rw [q] at h;cases h;simpa using BY q
noncomputable def SF (sc:Scope) (x:Str):Bool:=match sc.names.lookup x with
 | some .local=>true
 | some .cell=>true
 | some .free=>true
 | _=>false
noncomputable def JP (sc:Scope) (x:Str):Bool:=match sc.names.lookup x with
 | some .globalImplicit=>true
 | _=>false
noncomputable def UG (x:Str):Bool:=!(x == ("__debug__" : Str)) && !(x == ("__classdict__" : Str)) && !(x == ("__name__" : Str))
def lv (C:Cf) (x:Str):Option Nat:=if SF C.sc x && UG x then Cw C.N x else none
def Vk (C:Cf) (e:Expr):Option Nat:=match e with
 | .Name x _=>lv C x
 | _=>none
theorem DB {x:Str} (h:UG x=true):(x == ("__debug__" : Str))=false/\(x == ("__classdict__" : Str))=false/\x ≠ "__name__" := by
 unfold UG at h;simp only [Bool.and_eq_true,Bool.not_eq_true'] at h;exact ⟨h.1.1,h.1.2,fun z=>by rw [z] at h;simp at h⟩
theorem Oz {sc:Scope} {x:Str} (h:SF sc x=true):fF sc x:=by
 unfold SF at h;unfold fF;split at h
 ·rename_i e;exact .inl e
 ·rename_i e;exact .inr (.inl e)
 ·rename_i e;exact .inr (.inr e)
 ·cases h
theorem Bw {X:Cx} {C:Cf} (ok:Cok C X) {x:Str} (h:JP C.sc x=true):Gl X x:=by
 unfold JP at h;unfold Gl Env.kindOf;rw [ok.sc];split at h
 ·rename_i e;exact e
 ·cases h
theorem Xe {X:Cx} {C:Cf} (ok:Cok C X) {x:Str} {i:Nat} {pos:Pos} (h:lv C x=some i):PE X (.Name x pos) (HS i):=by
 unfold lv at h;split at h
 ·rename_i e;rw [Bool.and_eq_true] at e;have n:=DB e.2;exact ZP (by rw [ok.N];exact BY h) (by rw [ok.sc];exact Oz e.1) n.1 n.2.1
 ·cases h
theorem EE {X:Cx} {C:Cf} (ok:Cok C X) {e:Expr} {i:Nat} (h:Vk C e=some i):PE X e (HS i):=by
 cases e with
 | Name x pos=>exact Xe ok h
 | _=>cases h
structure CE:Type 1 where
 o:Nat
 Γ:Gm
 js:List Nat
 f:Ev Dv
structure CT:Type 1 where
 Γ:Gm
 js:List Nat
 f:Ev Bool
structure CA:Type 1 where
 as:List Ar
 Γ:Gm
 js:List Nat
structure CI:Type 1 where
 Γ:Gm
 js:List Nat
 f:Ev (List Dv)
structure CS:Type 1 where
 Γ:Option Gm
 js:List Nat
 f:Es
 er:Bool
 eb:Bool
 ec:Bool
structure Rec:Type 1 where
 E:Cf->Gm->Expr->Option CE
 A:Cf->Gm->List Bool->List Expr->Option CA
 T:Cf->Gm->Expr->Option CT
 I:Cf->Gm->Bool->Expr->Option CI
 S:Cf->Option Gm->Gm->Stmt->Option CS
 Ss:Cf->Option Gm->Gm->List Stmt->Option CS
structure OkR (r:Rec):Prop where
 E:∀ {C X Γ e c},Cok C X->r.E C Γ e=some c->PE X e (tE X.K Γ c.o c.Γ c.js c.f)
 A:∀ {C X Γ md es c},Cok C X->r.A C Γ md es=some c->PA X es (Bn X.K c.as)/\AC Γ c.as c.Γ c.js/\c.as.length=es.length/\es.all Ae=true/\(md=[]->evd c.as=true)
 T:∀ {C X Γ e c},Cok C X->r.T C Γ e=some c->PT X e (tT X.K Γ c.Γ c.js c.f)
 I:∀ {C X Γ e c} (tg),Cok C X->r.I C Γ (LA tg) e=some c->PI X tg e (tI X.K Γ c.Γ c.js c.f)
 S:∀ {C X Γl Γ s c},Cok C X->r.S C Γl Γ s=some c->PS X s (tS X.K C.F Γl Γ c.Γ c.js c.f)
 Ss:∀ {C X Γl Γ s c},Cok C X->r.Ss C Γl Γ s=some c->DL X s (tS X.K C.F Γl Γ c.Γ c.js c.f)
def bY (Γ:Gm) (i:Nat):Bool:=match Γ.getD i none with
 | some o=>decide (o<=1)
 | none=>false
theorem Gj {Γ:Gm} {i:Nat} (h:bY Γ i=true):∃ o,o<=1/\Γ[i]?=some (some o):=by
 unfold bY at h;split at h
 ·rename_i o e;exact ⟨o,of_decide_eq_true h,Bg e⟩
 ·cases h
def Qh (r:Rec) (C:Cf) (Γ:Gm) (md:List Bool) (es:List Expr):Option CA:=match es with
  | []=>some ⟨[],Γ,[]⟩
  | e::es=>if Ae e then
      match (if md.headD false then Vk C e else none) with
      | some i=>if (Γ.getD i none).isSome then (r.A C Γ md.tail es).bind fun c=>if bY c.Γ i then some ⟨.rf i::c.as,c.Γ,c.js⟩ else none else none
      | none=>(r.E C Γ e).bind fun c1=>(r.A C c1.Γ md.tail es).bind fun c=>some ⟨.ev Γ c1.Γ c1.js c1.f::c.as,c.Γ,c1.js++c.js⟩
    else none
theorem AF {e:Expr} {es:List Expr} {env:Env} (h:Ae e=true):starEach (e::es) env=(false,eval e env)::starEach es env:=by
 cases e<;>first | rfl | (cases h)
theorem getD_some {Γ:Gm} {i:Nat} (h:(Γ.getD i none).isSome=true):∃ o,Γ[i]?=some (some o):=by
 obtain ⟨o,e⟩:=Option.isSome_iff_exists.mp h;exact ⟨o,Bg e⟩
theorem Qg {r:Rec} (R:OkR r) {C:Cf} {X:Cx} {Γ:Gm} {md:List Bool} {es:List Expr} {c:CA} (ok:Cok C X) (h:Qh r C Γ md es=some c):PA X es (Bn X.K c.as)/\AC Γ c.as c.Γ c.js/\c.as.length=es.length/\es.all Ae=true/\(md=[]->evd c.as=true):=by
  cases es with
  | nil=>cases h;exact ⟨Za,by unfold AC;exact ⟨rfl,rfl⟩,rfl,rfl,fun _=>rfl⟩
  | cons e es =>
    unfold Qh at h;simp only at h;split at h
    · rename_i hs;have hst:=AF (es:=es) (env:=X.env) hs;split at h
      · rename_i i hi;have hmd:md.headD false=true:=by
          cases q:md.headD false with
          | true=>rfl
          | false=>rw [q] at hi;cases hi
        rw [hmd] at hi;split at h
        · rename_i h1;obtain ⟨c2,e2,h⟩:=bind_some' h;split at h
          · rename_i h2;cases h;obtain ⟨a1,a2,a3,a4,a5⟩:=R.A ok e2;refine ⟨NW (EE ok hi) a1 hst,?_,by simp [a3],by simp [hs,a4],fun z=>by rw [z] at hmd;cases hmd⟩;unfold AC;exact ⟨getD_some h1,Gj h2,a2⟩
          · cases h
        · cases h
      · obtain ⟨c1,e1,h⟩:=bind_some' h;obtain ⟨c2,e2,h⟩:=bind_some' h;cases h;obtain ⟨a1,a2,a3,a4,a5⟩:=R.A ok e2;refine ⟨NW (DT (R.E ok e1)) a1 hst,?_,by simp [a3],by simp [hs,a4],fun z=>?_⟩
        · unfold AC;exact ⟨rfl,_,rfl,a2⟩
        · show evd c2.as=true;exact a5 (by rw [z];rfl)
    · cases h
def TK (Γ:Gm):Const->Option CE
 | .int i=>some ⟨1,Γ,[],MZ (.int i)⟩
 | .bool b=>some ⟨1,Γ,[],MZ (.bl b)⟩
 | .none=>some ⟨1,Γ,[],MZ .non⟩
 | .str x=>some ⟨1,Γ,[],MZ (.str x.cps.toList)⟩
 | _=>none
theorem YO (x:Str):tx x.cps.toList=x:=by
 unfold tx;cases x;rfl
theorem Pd {X:Cx} {Γ:Gm} {k:Const} {c:CE} {j:Nat} {pos:Pos} (h:TK Γ k=some c):PE X (.Constant k j pos) (tE X.K Γ c.o c.Γ c.js c.f):=by
 cases k with
 | int i=>cases h;exact bX ZW fun _ _=>Ay
 | bool b=>cases h;exact bX dN fun _ _=>CL
 | none=>cases h;exact bX ZU fun _ _=>Dj
 | str x=>cases h;exact bX ZR fun _ _=>by unfold Rep;exact ⟨by rw [YO],fun _ z=>z⟩
 | _=>cases h
noncomputable def UQ (x:Str):Option String:=if x == ("int" : Str) then some "int" else if x == ("bool" : Str) then some "bool" else if x == ("str" : Str) then some "str" else if x == ("tuple" : Str) then some "tuple" else if x == ("list" : Str) then some "list" else none
theorem OH {x:Str} {T:String} (h:UQ x=some T):bootBuiltins x=some (.type T):=by
 unfold UQ at h
 repeat' split at h
 all_goals first | (rename_i e;rw [beq_iff_eq.mp e];cases h;first | exact PyProof.Rows.Boot.«int» | exact PyProof.Rows.Boot.«bool» | exact PyProof.Rows.Boot.«str» | exact PyProof.Rows.Boot.«tuple» | exact PyProof.Rows.Boot.«list») | cases h
def TJ (C:Cf) (Γ:Gm) (x:Str):Option CE:=match lv C x with
  | some i=>if (Γ.getD i none).isSome then some ⟨0,Γ.set i (some 0),[],Nj i⟩ else none
  | none=>if JP C.sc x && UG x then (match C.cs.find? fun p=>p.1 == x with
      | some p=>some ⟨0,Γ,[],MZ p.2⟩
      | none=>if C.bl.contains x then (UQ x).map fun T=>⟨0,Γ,[],MZ (.ty T)⟩ else none) else none
theorem TH {C:Cf} {X:Cx} {Γ:Gm} {x:Str} {c:CE} {pos:Pos} (ok:Cok C X) (h:TJ C Γ x=some c):PE X (.Name x pos) (tE X.K Γ c.o c.Γ c.js c.f):=by
 unfold TJ at h;split at h
 ·rename_i i hi;split at h
  ·rename_i h1;cases h;obtain ⟨o,ho⟩:=getD_some h1;exact cR (Xe ok hi) ho
  ·cases h
 ·split at h
  ·rename_i hg;rw [Bool.and_eq_true] at hg;cases q:C.cs.find? fun p=>p.1 == x with
   | none =>
    rw [q] at h;simp only at h;split at h
    ·rename_i hb;cases t:UQ x with
     | none=>rw [t] at h;cases h
     | some T =>
      rw [t] at h;cases h;exact bX (VU (v:=.ty T) (Bw ok hg.1) (ok.bl x (List.contains_iff_mem.mp hb)) (OH t) rfl (DB hg.2).2.2 (DB hg.2).1) fun _ _=>by unfold Rep;exact ⟨rfl,fun _ z=>z⟩
    ·cases h
   | some p =>
    rw [q] at h;cases h;have e:p.1=x:=beq_iff_eq.mp (by simpa using List.find?_some q);obtain ⟨v,u,h1,h3,h2⟩:=ok.cs p.1 p.2 (List.mem_of_find?_eq_some q);rw [e] at h1;exact bX (VR (Bw ok hg.1) h1 h3 (DB hg.2).1) h2
  ·cases h
structure C1:Type 1 where
 a:Ar
 Γ:Gm
 js:List Nat
def DZ (r:Rec) (C:Cf) (Γ:Gm) (m:Bool) (e:Expr):Option C1:=match (if m then Vk C e else none) with
 | some i=>if (Γ.getD i none).isSome then some ⟨.rf i,Γ,[]⟩ else none
 | none=>(r.E C Γ e).bind fun c=>some ⟨.ev Γ c.Γ c.js c.f,c.Γ,c.js⟩
def DJ (a:Ar) (Γ:Gm):Bool:=match a with
 | .rf i=>bY Γ i
 | _=>true
theorem BS {r:Rec} (R:OkR r) {C:Cf} {X:Cx} {Γ:Gm} {m:Bool} {e:Expr} {c:C1} (ok:Cok C X) (h:DZ r C Γ m e=some c):PE X e (HN X.K c.a)/\(m=false->evd [c.a]=true)/\∀ {as Γ' js},AC c.Γ as Γ' js->DJ c.a Γ'=true->AC Γ (c.a::as) Γ' (c.js++js):=by
 unfold DZ at h;split at h
 ·rename_i i hi;split at h
  ·rename_i h1;cases h;have hm:m=true:=by cases m with | true=>rfl | false=>cases hi
   subst hm;refine ⟨EE ok hi,(fun z=>by cases z),fun ch hs=>?_⟩;unfold AC;exact ⟨getD_some h1,Gj hs,ch⟩
  ·cases h
 ·obtain ⟨c1,e1,h⟩:=bind_some' h;cases h;refine ⟨DT (R.E ok e1),fun _=>rfl,fun ch hs=>?_⟩;unfold AC;exact ⟨rfl,_,rfl,ch⟩
theorem Az {Γ:Gm}:AC Γ [] Γ []:=by unfold AC;exact ⟨rfl,rfl⟩
def Ie (r:Rec) (C:Cf) (Γ:Gm) (a b:Expr):Option (C1×C1):=(DZ r C Γ true a).bind fun x=>(DZ r C x.Γ true b).bind fun y=>if DJ x.a y.Γ && DJ y.a y.Γ then some (x,y) else none
noncomputable def jj (p:C1×C1):List Nat:=p.1.js++(p.2.js++[])
theorem El {r:Rec} (R:OkR r) {C:Cf} {X:Cx} {Γ:Gm} {a b:Expr} {p:C1×C1} (ok:Cok C X) (h:Ie r C Γ a b=some p):PE X a (HN X.K p.1.a)/\PE X b (HN X.K p.2.a)/\AC Γ [p.1.a,p.2.a] p.2.Γ (jj p):=by
 unfold Ie at h;obtain ⟨x,e1,h⟩:=bind_some' h;obtain ⟨y,e2,h⟩:=bind_some' h;split at h
 ·rename_i z;rw [Bool.and_eq_true] at z;cases h;obtain ⟨a1,_,a2⟩:=BS R ok e1;obtain ⟨b1,_,b2⟩:=BS R ok e2;exact ⟨a1,b1,a2 (b2 Az z.2) z.1⟩
 ·cases h
def Pj (r:Rec) (C:Cf) (Γ:Gm) (a:Expr):Option C1:=(DZ r C Γ true a).bind fun x=>if DJ x.a x.Γ then some x else none
theorem Fy {r:Rec} (R:OkR r) {C:Cf} {X:Cx} {Γ:Gm} {a:Expr} {x:C1} (ok:Cok C X) (h:Pj r C Γ a=some x):PE X a (HN X.K x.a)/\AC Γ [x.a] x.Γ (x.js++[]):=by
 unfold Pj at h;obtain ⟨y,e1,h⟩:=bind_some' h;split at h
 ·rename_i z;cases h;obtain ⟨a1,_,a2⟩:=BS R ok e1;exact ⟨a1,a2 Az z⟩
 ·cases h
theorem Cok.gx {C:Cf} {X:Cx} (ok:Cok C X):Gx X:=ok.room
def eZ (r:Rec) (C:Cf) (Γ:Gm) (a:Expr) (op:Operator) (b:Expr):Option CE:=(C.T.bins.find? fun e=>e.op == op).bind fun en=>(Ie r C Γ a b).bind fun p=>some ⟨1,p.2.Γ,jj p,DY (two en.f) (AQ [p.1.a,p.2.a])⟩
theorem Wm {r:Rec} (R:OkR r) {C:Cf} {X:Cx} {Γ:Gm} {a b:Expr} {op:Operator} {pos:Pos} {c:CE} (ok:Cok C X) (h:eZ r C Γ a op b=some c):PE X (.BinOp a op b pos) (tE X.K Γ c.o c.Γ c.js c.f):=by
 obtain ⟨en,e1,h⟩:=bind_some' h;obtain ⟨p,e2,h⟩:=bind_some' h;cases h;have eo:en.op=op:=by simpa using List.find?_some e1
 obtain ⟨h1,h2,h3⟩:=El R ok e2;obtain ⟨rr,q1,q2⟩:=en.ok X ok.gx;rw [eo] at q1;exact PE.imp (dI q1 h1 h2) fun _ _ _ h=>Bm q2 h3 h
noncomputable def Ld (x:Dv):Option Dv:=match x with | .int i=>some (.int (-i)) | _=>none
theorem ZA {K:W.Frag}:AE K (one Ld) 1 (bf (rU fun i=>.int (-i))):=fun g H ds vs d Q zd ra e k=>by
 unfold one at e;split at e
 ·rename_i a;unfold Ld at e;split at e
  ·rename_i i;cases e;unfold RA at ra;obtain ⟨v,r,o,P,rfl,_,h1,h2⟩:=ra;unfold RA at h2;subst h2;rw [rep_int h1];exact ⟨i,rfl,k _ H (AV.old Ay)⟩
  ·cases e
 ·cases e
def eU (r:Rec) (C:Cf) (Γ:Gm) (a:Expr):Option CE:=(Pj r C Γ a).bind fun x=>some ⟨1,x.Γ,x.js++[],DY (one Ld) (AQ [x.a])⟩
theorem Wc {r:Rec} (R:OkR r) {C:Cf} {X:Cx} {Γ:Gm} {a:Expr} {pos:Pos} {c:CE} (ok:Cok C X) (h:eU r C Γ a=some c):PE X (.UnaryOp .USub a pos) (tE X.K Γ c.o c.Γ c.js c.f):=by
 obtain ⟨x,e1,h⟩:=bind_some' h;cases h;obtain ⟨h1,h2⟩:=Fy R ok e1;exact PE.imp (dG YL h1) fun _ _ _ h=>Bm ZA h2 h
def iP (t:CT):CE:=⟨1,t.Γ,t.js,Mc t.f⟩
def TL (r:Rec) (C:Cf) (Γ:Gm) (a:Expr) (op:CmpOp) (b:Expr):Option CT:=if behindInMarks op b then none else (C.T.cmps.find? fun e=>e.op == op).bind fun en=>(Ie r C Γ a b).bind fun p=>some ⟨p.2.Γ,jj p,Xs (two en.f) (AQ [p.1.a,p.2.a])⟩
theorem az {K:W.Frag} {Γ Γ':Gm} {js:List Nat} {σ:St} {H:Hp} {o:Nat} {p:List Dv->Option Bool} {as:List Ar} {r:UB} (hp:AE K (fun ds=>(p ds).map .bl) 0 r) (c:AC Γ as Γ' js) {Q:VK} (h:tE K Γ o Γ' js (Mc (Xs p (AQ as))) σ H Q):Bn K as σ H fun vs H1=>r vs H1 Q:=by
 obtain ⟨g,m,P,rl,R',k,res,e,q⟩:=h;refine AI as rl c e fun ds m' g' P' vs H1 hk ag s ar r1=>?_
 obtain ⟨b,e1,e2⟩:=bind_some' hk;refine hp g' H1 ds vs (.bl b) _ r1.zd (ar.ra r1) (by show (p ds).map _=_;rw [e1];rfl) fun v H2 nw=>?_
 obtain ⟨Pv,s2,h1,r2,n2⟩:=AV.go s r1 nw;have ev:=rep_bl h1;subst ev;exact q (.bl b) m' g' P' nop _ H2 e2 ag (s2.less fun _ z=>z.elim .inl False.elim) CL r2 fun _ _ z=>z
theorem Nw {r:Rec} (R:OkR r) {C:Cf} {X:Cx} {Γ:Gm} {a b:Expr} {op:CmpOp} {pos:Pos} {c:CT} (ok:Cok C X) (h:TL r C Γ a op b=some c):PT X (.Compare a [op] [b] pos) (tT X.K Γ c.Γ c.js c.f)/\∀ o,PE X (.Compare a [op] [b] pos) (tE X.K Γ o c.Γ c.js (Mc c.f)):=by
 unfold TL at h;split at h
 ·cases h
 ·rename_i hm;rw [Bool.not_eq_true] at hm;obtain ⟨en,e1,h⟩:=bind_some' h;obtain ⟨p,e2,h⟩:=bind_some' h;cases h;have eo:en.op=op:=by simpa using List.find?_some e1
  obtain ⟨h1,h2,h3⟩:=El R ok e2;obtain ⟨rr,q1,q2⟩:=en.ok X ok.gx;rw [eo] at q1;exact ⟨PT.imp (Us q1 h1 h2 hm) fun _ _ _ h=>eg q2 h3 h,fun o=>PE.imp (VS q1 h1 h2 hm) fun _ _ _ h=>az q2 h3 h⟩
noncomputable def Gg:Expr->Bool
 | .Slice _ _ _ _=>false
 | _=>true
theorem RW {b:Expr} (h:Gg b=true):OD b:=fun o i=>by
 cases b<;>first | rfl | (cases h)
def gh (r:Rec) (C:Cf) (Γ:Gm) (a b:Expr):Option CE:=(Ie r C Γ a b).bind fun p=>some ⟨0,p.2.Γ,jj p,DY (two C.T.ix) (AQ [p.1.a,p.2.a])⟩
theorem ao {r:Rec} (R:OkR r) {C:Cf} {X:Cx} {Γ:Gm} {a b:Expr} {pos:Pos} {c:CE} (ok:Cok C X) (hb:Gg b=true) (h:gh r C Γ a b=some c):PE X (.Subscript a b pos) (tE X.K Γ c.o c.Γ c.js c.f):=by
 obtain ⟨p,e2,h⟩:=bind_some' h;cases h;obtain ⟨h1,h2,h3⟩:=El R ok e2;obtain ⟨rr,q1,q2⟩:=C.T.ixok X ok.gx;exact PE.imp (dJ q1 h1 h2 (RW hb)) fun _ _ _ h=>Bm q2 h3 h
noncomputable def ba {R:Type} (d:Dv) (k:Int->Option R):Option R:=match d with | .int i=>k i | _=>none
def bD (o:Option (Ev Dv)):Ev (Option Int):=match o with
 | none=>fun _ m k=>k none m
 | some f=>fun R m k=>f R m fun d m1=>ba d fun i=>k (some i) m1
def eG (p:Dv->Option Int->Option Int->Option Dv) (a:Ar) (lo hi:Option (Ev Dv)):Ev Dv:=match a with
 | .rf i=>fun R m k=>bD lo R m fun l m1=>bD hi R m1 fun u m2=>(p (m2.at i) l u).bind fun d=>k d m2
 | .ev _ _ _ f=>fun R m k=>f R m fun x m1=>bD lo R m1 fun l m2=>bD hi R m2 fun u m3=>(p x l u).bind fun d=>k d m3
def gj (r:Rec) (C:Cf) (Γ:Gm) (o:Option Expr):Option (Option (Ev Dv)×Gm×List Nat):=match o with
 | none=>some (none,Γ,[])
 | some e=>(r.E C Γ e).bind fun c=>some (some c.f,c.Γ,c.js)
def XR (K:W.Frag) (Γ Γ':Gm) (js:List Nat) (f:Ev (Option Int)):TO:=fun σ H Q=>∃ g m P,Rel K g H Γ m σ P/\∃ (R:Type) (k:Option Int->M->Option R) (r:R),f R m k=some r /\
 ∀ b m' g' P' H',k b m'=some r->BW js m m'->Step g P H g' P' H'->Rel K g' H' Γ' m' σ P'->Q b H'
theorem PO.imp {X:Cx} {e:Option Expr} {t t':TO} (h:PO X e t) (k:∀ σ H Q,t' σ H Q->t σ H Q):PO X e t':=fun pins s σ H Q I q=>h pins s σ H Q I (k σ H Q q)
theorem TQ {r:Rec} (R:OkR r) {C:Cf} {X:Cx} {Γ:Gm} {e:Option Expr} {p:Option (Ev Dv)×Gm×List Nat} (ok:Cok C X) (h:gj r C Γ e=some p):PO X e (XR X.K Γ p.2.1 p.2.2 (bD p.1)):=by
 cases e with
 | none =>
  cases h;exact PO.imp VJ fun σ H Q q=>by
   obtain ⟨g,m,P,r,R,k,res,e,q⟩:=q;exact q none m g P H e BW.refl Step.refl r
 | some e =>
  obtain ⟨c,e1,h⟩:=bind_some' h;cases h;exact PO.imp (VI (DT (R.E ok e1))) fun σ H Q q=>by
   obtain ⟨g,m,P,r,R,k,res,e,q⟩:=q;refine ⟨g,m,P,r,R,_,res,e,fun d m' g' P' Pv v H' hk ag s rv r1 n=>?_⟩;cases d<;>first | (cases hk;done) | skip
   rename_i i;exact ⟨i,rep_int rv,q (some i) m' g' P' H' hk ag (s.less fun _ z=>.inl z) r1⟩
def iM (r:Rec) (C:Cf) (Γ:Gm) (a:Expr) (lo hi:Option Expr):Option CE:=(DZ r C Γ true a).bind fun x=>(gj r C x.Γ lo).bind fun l=>(gj r C l.2.1 hi).bind fun u=>if DJ x.a u.2.1 then some ⟨1,u.2.1,x.js++(l.2.2++u.2.2),eG C.T.sl x.a l.1 u.1⟩ else none
theorem YZ {K:W.Frag} {Γ Γ1 Γ2 Γ':Gm} {j1 j2 j3:List Nat} {p:Dv->Option Int->Option Int->Option Dv} {rr:V->Option Int->Option Int->Hp->VK->Prop} (hp:∀ lo hi,AE K (one fun d=>p d lo hi) 1 (bf fun x H Q=>rr x lo hi H Q)) {a:Ar} {lo hi:Option (Ev Dv)}
    (ha:∀ {as Γ' js},AC Γ1 as Γ' js->DJ a Γ'=true->AC Γ (a::as) Γ' (j1++js)) (hs:DJ a Γ'=true) {σ:St} {H:Hp} {Q:VK}
    (h:tE K Γ 1 Γ' (j1++(j2++j3)) (eG p a lo hi) σ H Q):iC rr (HN K a) (XR K Γ1 Γ2 j2 (bD lo)) (XR K Γ2 Γ' j3 (bD hi)) σ H Q:=by
  obtain ⟨g,m,P,r,R,k,res,e,q⟩:=h;have fin:∀ {x:Dv} {l u:Option Int} {m3:M} {g3:G} {P3:Fp} {H3:Hp} {v:V} {o:Nat} {Px:Fp},(p x l u).bind (fun d=>k d m3)=some res->BW (j1++(j2++j3)) m m3->Step g P H g3 P3 H3->Rel K g3 H3 Γ' m3 σ P3->o<=1->Rep K g3 H3 o x v Px->rr v l u H3 Q:=fun {x l u m3 g3 P3 H3 v o Px} hk ag s r3 hlo rx=>by
    obtain ⟨d,e1,e2⟩:=bind_some' hk;refine hp l u g3 H3 [x] [v] d Q r3.zd (by unfold RA;exact ⟨v,[],o,Px,rfl,hlo,rx,by unfold RA;rfl⟩) e1 fun w H4 nw=>?_
    obtain ⟨Pv,s2,h1,r2,n2⟩:=AV.go s r3 nw;exact q d m3 g3 P3 Pv w H4 e2 ag s2 h1 r2 n2
  cases a with
  | rf i =>
    have c0:=ha (as:=[]) (Γ':=Γ1) (js:=[]) Az;have hs':=hs
    -- the slot is set ahead
    have h0:(∃ o,Γ[i]?=some (some o))/\Γ1=Γ/\j1=[]:=by
      have:=ha (as:=[.ev Γ1 Γ' (j2++j3) (fun _ m k=>k .non m)]) (Γ':=Γ') (js:=(j2++j3)++[]) (by unfold AC;exact ⟨rfl,[],rfl,Az⟩) hs;unfold AC at this;refine ⟨this.1,?_⟩;obtain ⟨_,_,c⟩:=this;unfold AC at c;refine ⟨c.1,?_⟩;obtain ⟨_,js2,e,c⟩:=c;unfold AC at c;rw [c.2] at e;have l:(j1++((j2++j3)++[])).length=((j2++j3)++[]).length:=congrArg List.length e;simp at l;exact l
    obtain ⟨⟨o0,h0⟩,rfl,rfl⟩:=h0;obtain ⟨v0,P0,ev0,rv0,_⟩:=r.see h0;refine ⟨v0,ev0,g,m,P,r,R,_,res,e,fun l m1 g1 P1 H1 hk1 ag1 s1 r1=>⟨g1,m1,P1,r1,R,_,res,hk1,fun u m2 g2 P2 H2 hk2 ag2 s2 r2=>?_⟩⟩;obtain ⟨o1,hl1,h1⟩:=Gj hs;obtain ⟨v1,Px,ev1,rv1,_⟩:=r2.see h1;rw [ev0] at ev1;cases ev1;exact fin hk2 (ag1.trans ag2) (s1.trans s2) r2 hl1 rv1
  | ev Γa Γb ja f =>
    have h0:Γa=Γ/\Γb=Γ1/\j1=ja:=by
      have:=ha (as:=[.ev Γ1 Γ1 [] (fun _ m k=>k .non m)]) (Γ':=Γ1) (js:=[]) (by unfold AC;exact ⟨rfl,[],rfl,Az⟩) rfl;unfold AC at this;obtain ⟨e1,js2,e2,c⟩:=this;unfold AC at c;obtain ⟨e3,js3,e4,c⟩:=c;unfold AC at c;rw [c.2] at e4;subst e4;simp at e2;exact ⟨e1,e3.symm,e2⟩
    obtain ⟨rfl,rfl,rfl⟩:=h0;refine ⟨g,m,P,r,R,_,res,e,fun x m1 g1 P1 Pv v H1 hk1 ag1 s1 rv r1 n1=>⟨g1,m1,P1,r1,R,_,res,hk1,fun l m2 g2 P2 H2 hk2 ag2 s2 r2=>⟨g2,m2,P2,r2,R,_,res,hk2,fun u m3 g3 P3 H3 hk3 ag3 s3 r3=>?_⟩⟩⟩;exact fin hk3 (ag1.trans (ag2.trans ag3)) (((s1.less fun _ z=>.inl z).trans s2).trans s3) r3 (by decide:0<=1) ((rv.z.held s2 r1.fpOk fun _ z=>z.elim).held s3 r2.fpOk fun _ z=>z.elim)
theorem ab {r:Rec} (R:OkR r) {C:Cf} {X:Cx} {Γ:Gm} {a:Expr} {lo hi:Option Expr} {p2 pos:Pos} {c:CE} (ok:Cok C X) (h:iM r C Γ a lo hi=some c):PE X (.Subscript a (.Slice lo hi none p2) pos) (tE X.K Γ c.o c.Γ c.js c.f):=by
 obtain ⟨x,e1,h⟩:=bind_some' h;obtain ⟨l,e2,h⟩:=bind_some' h;obtain ⟨u,e3,h⟩:=bind_some' h;split at h
 ·rename_i hs;cases h;obtain ⟨h1,_,h2⟩:=BS R ok e1;obtain ⟨rr,q1,q2⟩:=C.T.slok X ok.gx;exact PE.imp (Rb q1 h1 (TQ R ok e2) (TQ R ok e3)) fun _ _ _ h=>YZ q2 h2 hs h
 ·cases h
def eR (r:Rec) (C:Cf) (Γ:Gm) (es:List Expr):Option CE:=(r.A C Γ [] es).bind fun c=>some ⟨1,c.Γ,c.js,Nk .tup (AQ c.as)⟩
def eW (r:Rec) (C:Cf) (Γ:Gm) (es:List Expr):Option CE:=(r.A C Γ [] es).bind fun c=>some ⟨1,c.Γ,c.js,Nk .lst (AQ c.as)⟩
theorem WW {r:Rec} (R:OkR r) {C:Cf} {X:Cx} {Γ:Gm} {es:List Expr} {x1:Nat} {pos:Pos} {c:CE} (ok:Cok C X) (h:eR r C Γ es=some c):PE X (.Tuple es x1 pos) (tE X.K Γ c.o c.Γ c.js c.f):=by
 obtain ⟨x,e1,h⟩:=bind_some' h;cases h;obtain ⟨a1,a2,_,_,a5⟩:=R.A ok e1;exact cS a1 a2 (a5 rfl)
theorem We {r:Rec} (R:OkR r) {C:Cf} {X:Cx} {Γ:Gm} {es:List Expr} {pos:Pos} {c:CE} (ok:Cok C X) (h:eW r C Γ es=some c):PE X (.List es pos) (tE X.K Γ c.o c.Γ c.js c.f):=by
 obtain ⟨x,e1,h⟩:=bind_some' h;cases h;obtain ⟨a1,a2,_,_,a5⟩:=R.A ok e1;exact cV a1 a2 (a5 rfl)
def BV:Gm->Gm->Gm
 | some a::x,some b::y=>some (if a == b then a else 0)::BV x y
 | _::x,_::y=>none::BV x y
 | _,_=>[]
def eE (t:Dv->Option Bool) (fa:Ev (List Dv)):Ev Bool:=Xs (one t) fa
def aa (r:Rec) (C:Cf) (Γ:Gm) (a:Expr):Option CT:=(Pj r C Γ a).bind fun x=>some ⟨x.Γ,x.js++[],eE C.T.tru (AQ [x.a])⟩
noncomputable def Nd:Expr->Bool
 | .UnaryOp .Not _ _=>false
 | .BoolOp _ _ _=>false
 | .IfExp _ _ _ _=>false
 | .Compare _ _ _ _=>false
 | _=>true
theorem WX {r:Rec} (R:OkR r) {C:Cf} {X:Cx} {Γ:Gm} {a:Expr} {c:CT} (ok:Cok C X) (hv:Nd a=true) (h:aa r C Γ a=some c):PT X a (tT X.K Γ c.Γ c.js c.f):=by
  obtain ⟨x,e1,h⟩:=bind_some' h;cases h;obtain ⟨h1,h2⟩:=Fy R ok e1;refine PT.imp (RI h1 fun whole=>?_) fun σ H Q h=>?_
  · cases a<;>first | rfl | (cases hv;done) | skip
    rename_i op b pos;cases op<;>first | rfl | (cases hv;done)
  · obtain ⟨g,m,P,rl,R',k,res,e,q⟩:=h;have key:Bn X.K [x.a] σ H fun vs H1=>∃ w,vs=[w]/\∃ b,Tz X.K w H1 b/\Q b H1:=by
      refine AI [x.a] rl h2 e fun ds m' g' P' vs H1 hk ag s ar r1=>?_
      obtain ⟨b,e1,e2⟩:=bind_some' hk;unfold one at e1;split at e1
      · rename_i d;have ra:=ar.ra r1;unfold RA at ra;obtain ⟨w,wr,o,Po,rfl,_,h3,h4⟩:=ra;unfold RA at h4;subst h4;exact ⟨w,rfl,b,C.T.trok _ _ _ _ _ _ _ _ h3 e1,q b m' g' P' H1 e2 ag s r1⟩
      · cases e1
    revert key
    cases x.a with
    | ev Γa Γb ja fa =>
      rintro ⟨g,m,P,r,R,k,res,e,q⟩;refine ⟨g,m,P,r,R,k,res,e,fun d m' g' P' Pv v H' h1 h2 h3 h4 h5 h6=>?_⟩;obtain ⟨w,ew,z⟩:=q d m' g' P' Pv v H' h1 h2 h3 h4 h5 h6;cases ew;exact z
    | rf i =>
      rintro ⟨v,e,w,ew,z⟩;cases ew;exact ⟨v,e,z⟩
def gb (t:CT):CT:=⟨t.Γ,t.js,Xq t.f⟩
def gk (a b:CT):CT:=let Γ':=BV a.Γ b.Γ;let js:=a.js++b.js;⟨Γ',js,Ma (Aq Γ' js) (HB a.f b.f fun _ m k=>k false m)⟩
def iZ (a b:CT):CT:=let Γ':=BV a.Γ b.Γ;let js:=a.js++b.js;⟨Γ',js,Ma (Aq Γ' js) (HB a.f (fun _ m k=>k true m) b.f)⟩
theorem dC {X:Cx} {op:BoolOp} {vs:List Expr} {pos:Pos} {t:TT} (h:PT X (.BoolOp op vs pos) t):PW X (.BoolOp op vs pos) t:=fun wh pins s σ H Q I q=>h pins s σ H Q I q
def XT (r:Rec) (C:Cf) (Γ:Gm) (op:BoolOp) (vs:List Expr) (pos:Pos):Option CT:=match vs with
 | []=>none
 | [a]=>r.T C Γ a
 | a::b::vs=>(r.T C Γ a).bind fun x=>(r.T C x.Γ (.BoolOp op (b::vs) pos)).bind fun y=>if BQ (BV x.Γ y.Γ) x.Γ && BQ (BV x.Γ y.Γ) y.Γ then some (match op with | .And=>gk x y | .Or=>iZ x y) else none
theorem Qe {r:Rec} (R:OkR r) {C:Cf} {X:Cx} {Γ:Gm} {op:BoolOp} {vs:List Expr} {pos:Pos} {c:CT} (ok:Cok C X) (h:XT r C Γ op vs pos=some c):PT X (.BoolOp op vs pos) (tT X.K Γ c.Γ c.js c.f):=by
 match vs,h with
 | [],h=>cases h
 | [a],h =>
  cases op with
  | And=>exact PW.pt (Ur (R.T ok h))
  | Or=>exact PW.pt (Ys (R.T ok h))
 | a::b::vs,h =>
  obtain ⟨x,e1,h⟩:=bind_some' h;obtain ⟨y,e2,h⟩:=bind_some' h;split at h
  ·rename_i hw;rw [Bool.and_eq_true] at hw;have ha:=R.T ok e1;have hb:=dC (R.T ok e2);have jk:∀ (i o:Nat),(BV x.Γ y.Γ)[i]?=some (some o)->i∈Aq (BV x.Γ y.Γ) (x.js++y.js)\/i∉x.js++y.js:=fun i o h=>BH h
   cases op with
   | And =>
    cases h;exact PW.pt (PW.imp (Yt ha (PW.imp hb fun _ _ _ h=>NG hw.2 (fun _ z=>z) h)) fun σ H Q h=>QS (Nb jk (fun i z=>Ap z) h) hw.1)
   | Or =>
    cases h;exact PW.pt (PW.imp (cz ha (PW.imp hb fun _ _ _ h=>NG hw.2 (fun _ z=>z) h)) fun σ H Q h=>bp (Nb jk (fun i z=>Ap z) h) hw.1)
  ·cases h
def eK (p p':List Dv->Option Bool) (a:Ar) (i:Nat) (c:Ar):Ev Bool:=HB (Xs p (AQ [a,.rf i])) (Xs p' (AQ [.rf i,c])) fun R m k=>k false m
section
variable {K:W.Frag} {Γ Γ2 Γ':Gm} {js js2:List Nat} {σ:St} {H:Hp}
theorem Ik {f:Ev Bool} {Q Q':Bool->Hp->Prop} (h:tT K Γ Γ' js f σ H Q) (m:∀ b H',Q b H'->Q' b H'):tT K Γ Γ' js f σ H Q':=by
 obtain ⟨g,m',P,r,R,k,res,e,q⟩:=h;exact ⟨g,m',P,r,R,k,res,e,fun b m1 g1 P1 H1 h1 h2 h3 h4=>m _ _ (q b m1 g1 P1 H1 h1 h2 h3 h4)⟩
theorem GG {a:Ar} {Q1 Q2:VK} (h12:∀ v H,Q1 v H->Q2 v H) (t:HN K a σ H Q1):HN K a σ H Q2:=by
 cases a with
 | ev Γa Γb ja fa =>
  obtain ⟨g,m,P,r,R,k,res,e,q⟩:=t;exact ⟨g,m,P,r,R,k,res,e,fun d m' g' P' Pv v H' h1 h2 h3 h4 h5 h6=>h12 _ _ (q d m' g' P' Pv v H' h1 h2 h3 h4 h5 h6)⟩
 | rf i=>obtain ⟨v,e,q⟩:=t;exact ⟨v,e,h12 _ _ q⟩
theorem Xz {o:Nat} {f:Ev Bool} {Q:VK} (h:tE K Γ o Γ' js (Mc f) σ H Q):tT K Γ Γ' js f σ H fun b H'=>Q (.bl b) H':=by
 obtain ⟨g,m,P,r,R,k,res,e,q⟩:=h;exact ⟨g,m,P,r,R,_,res,e,fun b m1 g1 P1 H1 hk ag s r1=>q (.bl b) m1 g1 P1 nop _ H1 hk ag (s.less fun _ z=>z.elim id False.elim) CL r1 fun _ _ z=>z⟩
theorem Te {p:List Dv->Option Bool} {as:List Ar} {r:UB} (hp:AE K (fun ds=>(p ds).map .bl) 0 r) (c:AC Γ as Γ' js) {Q:VK} (h:tT K Γ Γ' js (Xs p (AQ as)) σ H fun b H'=>Q (.bl b) H'):Bn K as σ H fun vs H1=>r vs H1 Q:=by
 obtain ⟨g,m,P,rl,R',k,res,e,q⟩:=h;refine AI as rl c e fun ds m' g' P' vs H1 hk ag s ar r1=>?_
 obtain ⟨b,e1,e2⟩:=bind_some' hk;refine hp g' H1 ds vs (.bl b) _ r1.zd (ar.ra r1) (by show (p ds).map _=_;rw [e1];rfl) fun v H2 nw=>?_
 obtain ⟨Pv,s2,h1,r2,n2⟩:=AV.go s r1 nw;rw [rep_bl h1];exact q b m' g' P' H2 e2 ag (s2.less fun _ q=>.inl q) r2
theorem IT {p p':List Dv->Option Bool} {a c:Ar} {i o:Nat} {r r':R2} (hp:AE K (fun ds=>(p ds).map .bl) 0 (HP r)) (hp':AE K (fun ds=>(p' ds).map .bl) 0 (HP r')) (c1:AC Γ [a,.rf i] Γ2 js) (c2:AC Γ2 [.rf i,c] Γ' js2) (hi:Γ[i]?=some (some o)) (hw:BQ Γ' Γ2=true) {Q:VK}
    (h:tT K Γ Γ' (js++js2) (eK p p' a i c) σ H fun b H'=>Q (.bl b) H'):Il r r' (HN K a) (HS i) (HN K c) σ H Q:=by
  have h0:∃ v,σ[i]?=some (some v):=by
    obtain ⟨g,m,P,r,_⟩:=h;obtain ⟨v,_,e,_⟩:=r.see hi;exact ⟨v,e⟩
  obtain ⟨v,hv⟩:=h0;have h1:=QS h hw;have h2:tT K Γ Γ2 js (Xs p (AQ [a,.rf i])) σ H fun b H'=>∃ k,V.bl b=V.bl k/\if k=true then HN K c σ H' fun w' H4=>r' v w' H4 Q else Q (.bl false) H':=Ik h1 fun b H' q=>⟨b,rfl,by
    cases b with
    | true =>
      rw [if_pos rfl] at q ⊢;obtain ⟨v',hv',q'⟩:=Te hp' c2 q;rw [hv] at hv';cases hv';exact q'
    | false=>rw [if_neg Bool.false_ne_true] at q ⊢;exact q⟩
  have h3:=Te (Q:=fun z H'=>∃ k,z=V.bl k/\if k=true then HN K c σ H' fun w' H4=>r' v w' H4 Q else Q (.bl false) H') hp c1 h2;refine GG (fun x H1 z=>?_) h3;obtain ⟨w,hw',q⟩:=z;rw [hv] at hw';cases hw';exact ⟨v,hv,q⟩
end
def Xr (p p':List Dv->Option Bool) (a b c:Ar):Ev Bool:=fun R m k=>AQ [a,b] R m fun ds m1=>(p ds).bind fun t=>if t=true then AQ [c] R m1 fun cs m2=>(p' (ds.getD 1 .non::cs)).bind fun u=>k u m2 else k false m1
theorem HD {K:W.Frag} {Γ Γ2 Γ' Γa Γb:Gm} {js js2 jb:List Nat} {σ:St} {H:Hp} {p p':List Dv->Option Bool} {a c:Ar} {fb:Ev Dv} {r r':R2} (hp:AE K (fun ds=>(p ds).map .bl) 0 (HP r)) (hp':AE K (fun ds=>(p' ds).map .bl) 0 (HP r')) (c1:AC Γ [a,.ev Γa Γb jb fb] Γ2 js) (c2:AC Γ2 [c] Γ' js2) (hw:BQ Γ' Γ2=true) {Q:VK}
    (h:tT K Γ Γ' (js++js2) (Xr p p' a (.ev Γa Γb jb fb) c) σ H fun b H'=>Q (.bl b) H'):Il r r' (HN K a) (tE K Γa 0 Γb jb fb) (HN K c) σ H Q:=by
  obtain ⟨g,m,P,rl,R,k,res,e,q⟩:=h;have key:Bn K [a,.ev Γa Γb jb fb] σ H fun vs H1=>∃ x y,vs=[x,y]/\r x y H1 fun z H3=>∃ k,z=.bl k/\(if k=true then HN K c σ H3 fun w' H4=>r' y w' H4 Q else Q (.bl false) H3):=by
    refine AI _ rl c1 e fun ds m1 g1 P1 vs H1 hk ag s ar r1=>?_
    obtain ⟨t,e1,e2⟩:=bind_some' hk;have ra:=ar.ra r1
    -- the middle's value is frozen
    obtain ⟨dx,dy,x,y,rfl,rfl,ry⟩:∃ dx dy x y,ds=[dx,dy]/\vs=[x,y]/\Rep K g1 H1 0 dy y nop:=by
      cases a with
      | rf i =>
        unfold Ak at ar;obtain ⟨v,ds',vs',rfl,rfl,_,_,ar⟩:=ar;unfold Ak at ar;obtain ⟨d,v',ds',vs',rfl,rfl,h1,ar⟩:=ar;unfold Ak at ar;obtain ⟨rfl,rfl⟩:=ar;exact ⟨_,_,_,_,rfl,rfl,h1⟩
      | ev _ _ _ _ =>
        unfold Ak at ar;obtain ⟨d0,v,ds',vs',rfl,rfl,_,ar⟩:=ar;unfold Ak at ar;obtain ⟨d,v',ds',vs',rfl,rfl,h1,ar⟩:=ar;unfold Ak at ar;obtain ⟨rfl,rfl⟩:=ar;exact ⟨_,_,_,_,rfl,rfl,h1⟩
    refine ⟨x,y,rfl,hp g1 H1 [dx,dy] [x,y] (.bl t) _ r1.zd ra (by show (p _).map _=_;rw [e1];rfl) fun v H2 nw=>?_⟩;obtain ⟨Pv,s2,h1,r2,n2⟩:=AV.go s r1 nw;have sm:=nw.1;have ry2:Rep K g1 H2 0 dy y nop:=ry.held (Step.same (g:=g1) (P:=nop) sm) FpOk.nop fun _ z=>z.elim
    have s3:Step g P H g1 P1 H2:=s2.less fun _ z=>.inl z
    refine ⟨t,rep_bl h1,?_⟩;cases t with
    | false =>
      rw [if_neg Bool.false_ne_true] at e2 ⊢;obtain ⟨g4,P4,s4,r4⟩:=r2.weaken hw;exact q false m1 g4 P4 H2 e2 (ag.mono fun _ z=>List.mem_append_left _ z) (s3.trans s4) r4
    | true =>
      rw [if_pos rfl] at e2 ⊢;have key2:Bn K [c] σ H2 fun ws H4=>∃ w,ws=[w]/\r' y w H4 Q:=by
        refine AI _ r2 c2 e2 fun cs m2 g4 P4 ws H4 hk2 ag2 s4 ar2 r4=>?_
        obtain ⟨u,e3,e4⟩:=bind_some' hk2;have ra2:=ar2.ra r4;have al:=ar2.len
        match cs,ws,al.1,al.2,ra2,e3 with
        | [cd],[w],_,_,ra2,e3 =>
          have ry4:Rep K g4 H4 0 dy y nop:=ry2.held s4 r2.fpOk fun _ z=>z.elim
          refine ⟨w,rfl,hp' g4 H4 [dy,cd] [y,w] (.bl u) Q r4.zd (by unfold RA;exact ⟨y,[w],0,nop,rfl,by decide,ry4,ra2⟩) (by show (p' _).map _=_;rw [show p' [dy,cd]=some u from e3];rfl) fun v' H5 nw'=>?_⟩;obtain ⟨Pv',s5,h5,r5,n5⟩:=AV.go (s3.trans s4) r4 nw';rw [rep_bl h5];exact q u m2 g4 P4 H5 e4 (ag.trans ag2) (s5.less fun _ z=>.inl z) r5
      refine GG (fun w H4 z=>?_) key2;obtain ⟨w',ew,z⟩:=z;cases ew;exact z
  refine GG (fun x H1 z=>?_) key;obtain ⟨g,m,P,r,R,k,res,e,q⟩:=z;refine ⟨g,m,P,r,R,k,res,e,fun d m' g' P' Pv v H' h1 h2 h3 h4 h5 h6=>?_⟩;obtain ⟨x',y',ev,z⟩:=q d m' g' P' Pv v H' h1 h2 h3 h4 h5 h6;cases ev;exact z
def ax (r:Rec) (C:Cf) (Γ:Gm) (a:Expr) (op:CmpOp) (b:Expr) (op':CmpOp) (c:Expr):Option CT:=if lastMarks [op,op'] [b,c] then none else (C.T.cmps.find? fun e=>e.op == op).bind fun en=>(C.T.cmps.find? fun e=>e.op == op').bind fun en'=>(DZ r C Γ true a).bind fun x=>(r.E C x.Γ b).bind fun y=>(DZ r C y.Γ true c).bind fun z =>
 if DJ x.a y.Γ && DJ z.a z.Γ && BQ z.Γ y.Γ then some ⟨z.Γ,(x.js++(y.js++[]))++(z.js++[]),Xr (two en.f) (two en'.f) x.a (.ev x.Γ y.Γ y.js y.f) z.a⟩ else none
theorem Wj {r:Rec} (R:OkR r) {C:Cf} {X:Cx} {Γ:Gm} {a b c:Expr} {op op':CmpOp} {pos:Pos} {t:CT} (ok:Cok C X) (h:ax r C Γ a op b op' c=some t):PT X (.Compare a [op,op'] [b,c] pos) (tT X.K Γ t.Γ t.js t.f)/\∀ o,PE X (.Compare a [op,op'] [b,c] pos) (tE X.K Γ o t.Γ t.js (Mc t.f)):=by
 unfold ax at h;split at h
 ·cases h
 ·rename_i hm;rw [Bool.not_eq_true] at hm;obtain ⟨en,e1,h⟩:=bind_some' h;obtain ⟨en',e2,h⟩:=bind_some' h;obtain ⟨x,e3,h⟩:=bind_some' h;obtain ⟨y,e5,h⟩:=bind_some' h;obtain ⟨z,e4,h⟩:=bind_some' h;split at h
  ·rename_i hw;simp only [Bool.and_eq_true] at hw;obtain ⟨⟨w2,w4⟩,w6⟩:=hw;cases h;have eo:en.op=op:=by simpa using List.find?_some e1
   have eo':en'.op=op':=by simpa using List.find?_some e2
   obtain ⟨rr,q1,q2⟩:=en.ok X ok.gx;obtain ⟨rr',q1',q2'⟩:=en'.ok X ok.gx;rw [eo] at q1;rw [eo'] at q1';obtain ⟨a1,_,a2⟩:=BS R ok e3;obtain ⟨b1,_,b2⟩:=BS R ok e4;have hb:=DT (R.E ok e5);have c1:AC Γ [x.a,.ev x.Γ y.Γ y.js y.f] y.Γ (x.js++(y.js++[])):=a2 (by unfold AC;exact ⟨rfl,_,rfl,Az⟩) w2;have c2:AC y.Γ [z.a] z.Γ (z.js++[]):=b2 Az w4;exact ⟨PT.imp (Kf q1 q1' a1 hb b1 hm) fun σ H Q h=>HD (Q:=fun v H'=>∃ k,v=V.bl k/\Q k H') q2 q2' c1 c2 w6 (Ik h fun b H' q=>⟨b,rfl,q⟩),fun o=>PE.imp (Kn q1 q1' a1 hb b1 hm) fun σ H Q h=>HD q2 q2' c1 c2 w6 (Xz h)⟩
  ·cases h
def gi (r:Rec) (C:Cf) (Γ:Gm) (a:Expr) (op:CmpOp) (b:Expr) (op':CmpOp) (c:Expr):Option CT:=if lastMarks [op,op'] [b,c] then none else (Vk C b).bind fun i=>(C.T.cmps.find? fun e=>e.op == op).bind fun en=>(C.T.cmps.find? fun e=>e.op == op').bind fun en'=>(DZ r C Γ true a).bind fun x=>(DZ r C x.Γ true c).bind fun z =>
 if (Γ.getD i none).isSome && DJ x.a x.Γ && bY x.Γ i && DJ z.a z.Γ && bY z.Γ i && BQ z.Γ x.Γ then some ⟨z.Γ,(x.js++[])++(z.js++[]),eK (two en.f) (two en'.f) x.a i z.a⟩ else none
theorem aw {r:Rec} (R:OkR r) {C:Cf} {X:Cx} {Γ:Gm} {a b c:Expr} {op op':CmpOp} {pos:Pos} {t:CT} (ok:Cok C X) (h:gi r C Γ a op b op' c=some t):PT X (.Compare a [op,op'] [b,c] pos) (tT X.K Γ t.Γ t.js t.f)/\∀ o,PE X (.Compare a [op,op'] [b,c] pos) (tE X.K Γ o t.Γ t.js (Mc t.f)):=by
 unfold gi at h;split at h
 ·cases h
 ·rename_i hm;rw [Bool.not_eq_true] at hm;obtain ⟨i,e0,h⟩:=bind_some' h;obtain ⟨en,e1,h⟩:=bind_some' h;obtain ⟨en',e2,h⟩:=bind_some' h;obtain ⟨x,e3,h⟩:=bind_some' h;obtain ⟨z,e4,h⟩:=bind_some' h;split at h
  ·rename_i hw;simp only [Bool.and_eq_true] at hw;obtain ⟨⟨⟨⟨⟨w1,w2⟩,w3⟩,w4⟩,w5⟩,w6⟩:=hw;cases h;have eo:en.op=op:=by simpa using List.find?_some e1
   have eo':en'.op=op':=by simpa using List.find?_some e2
   obtain ⟨rr,q1,q2⟩:=en.ok X ok.gx;obtain ⟨rr',q1',q2'⟩:=en'.ok X ok.gx;rw [eo] at q1;rw [eo'] at q1';obtain ⟨a1,_,a2⟩:=BS R ok e3;obtain ⟨b1,_,b2⟩:=BS R ok e4;obtain ⟨o,hi⟩:=getD_some w1;obtain ⟨o2,lo2,hi2⟩:=Gj w3;have c1:AC Γ [x.a,.rf i] x.Γ (x.js++[]):=a2 (by unfold AC;exact ⟨⟨o2,hi2⟩,⟨o2,lo2,hi2⟩,Az⟩) w2;have c2:AC x.Γ [.rf i,z.a] z.Γ (z.js++[]):=by
    unfold AC;exact ⟨⟨o2,hi2⟩,Gj w5,b2 Az w4⟩
   exact ⟨PT.imp (Kf q1 q1' a1 (EE ok e0) b1 hm) fun σ H Q h=>IT (Q:=fun v H'=>∃ k,v=V.bl k/\Q k H') q2 q2' c1 c2 hi w6 (Ik h fun b H' q=>⟨b,rfl,q⟩),fun o=>PE.imp (Kn q1 q1' a1 (EE ok e0) b1 hm) fun σ H Q h=>IT q2 q2' c1 c2 hi w6 (Xz h)⟩
  ·cases h
def TM (r:Rec) (C:Cf) (Γ:Gm) (a:Expr) (op:CmpOp) (b:Expr) (op':CmpOp) (c:Expr):Option CT:=match Vk C b with
 | some _=>gi r C Γ a op b op' c
 | none=>ax r C Γ a op b op' c
theorem Nx {r:Rec} (R:OkR r) {C:Cf} {X:Cx} {Γ:Gm} {a b c:Expr} {op op':CmpOp} {pos:Pos} {t:CT} (ok:Cok C X) (h:TM r C Γ a op b op' c=some t):PT X (.Compare a [op,op'] [b,c] pos) (tT X.K Γ t.Γ t.js t.f)/\∀ o,PE X (.Compare a [op,op'] [b,c] pos) (tE X.K Γ o t.Γ t.js (Mc t.f)):=by
 unfold TM at h;split at h
 ·exact aw R ok h
 ·exact Wj R ok h
def NI (r:Rec) (C:Cf) (Γ:Gm) (e:Expr):Option CT:=match e with
 | .Compare a [op] [b] _=>TL r C Γ a op b
 | .Compare a [op,op'] [b,c] _=>TM r C Γ a op b op' c
 | .UnaryOp .Not x _=>(r.T C Γ x).map gb
 | .BoolOp op vs pos=>XT r C Γ op vs pos
 | e=>if Nd e then aa r C Γ e else none
theorem QX {r:Rec} (R:OkR r) {C:Cf} {X:Cx} {Γ:Gm} {e:Expr} {c:CT} (ok:Cok C X) (h:NI r C Γ e=some c):PT X e (tT X.K Γ c.Γ c.js c.f):=by
 have val:Nd e=true->(if Nd e then aa r C Γ e else none)=some c->PT X e (tT X.K Γ c.Γ c.js c.f):=fun hv h=>by
  rw [if_pos hv] at h;exact WX R ok hv h
 match e,h with
 | .Compare a ops bs pos,h =>
  match ops,bs,h with
  | [op],[b],h=>exact (Nw R ok h).1
  | [op,op'],[b,c],h=>exact (Nx R ok h).1
  | [],_,h=>cases h
  | [_],[],h=>cases h
  | [_],_::_::_,h=>cases h
  | [_,_],[],h=>cases h
  | [_,_],[_],h=>cases h
  | [_,_],_::_::_::_,h=>cases h
  | _::_::_::_,_,h=>cases h
 | .UnaryOp op x pos,h =>
  cases op with
  | Not =>
   cases q:r.T C Γ x with
   | none=>simp only [NI,q] at h;cases h
   | some t =>
    simp only [NI,q] at h;cases h;exact PT.imp (Yu (R.T ok q)) fun _ _ _ h=>YR h
  | _=>exact val rfl h
 | .BoolOp op vs pos,h=>exact Qe R ok h
 | .IfExp a b c' d,h=>cases h
 | .NamedExpr ..,h | .BinOp ..,h | .Lambda ..,h | .Dict ..,h | .Set ..,h | .ListComp ..,h | .SetComp ..,h | .DictComp ..,h | .GeneratorExp ..,h | .Await ..,h | .Yield ..,h | .YieldFrom ..,h | .Call ..,h | .FormattedValue ..,h | .JoinedStr ..,h | .Constant ..,h | .Attribute ..,h | .Subscript ..,h | .Starred ..,h | .Name ..,h | .List ..,h | .Tuple ..,h | .Slice ..,h=>exact val rfl h
noncomputable def YA {R:Type} (d:Dv) (k:Bool->Option R):Option R:=match d with | .bl b=>k b | _=>none
theorem HF {R:Type} {d:Dv} {k:Bool->Option R} {r:R} (h:YA d k=some r):∃ b,d=.bl b/\k b=some r:=by
 cases d<;>first | (cases h;done) | exact ⟨_,rfl,h⟩
def Sa (f g:Ev Dv):Ev Dv:=fun R m k=>f R m fun d m1=>YA d fun b=>if b=true then g R m1 k else k (.bl false) m1
def Xp (f g:Ev Dv):Ev Dv:=fun R m k=>f R m fun d m1=>YA d fun b=>if b=true then k (.bl true) m1 else g R m1 k
def SQ (f:Ev Dv):Ev Dv:=fun R m k=>f R m fun d m1=>YA d fun b=>k (.bl (!b)) m1
section
variable {K:W.Frag} {Γ Γ' Γ2:Gm} {js js2:List Nat} {σ:St} {H:Hp} {f u:Ev Dv} {Q:VK}
theorem YU (hw:BQ Γ' Γ2=true) (h:tE K Γ 0 Γ' (js++js2) (Sa f u) σ H Q):XS (tE K Γ 0 Γ2 js f) (tE K Γ2 0 Γ' js2 u) σ H Q:=by
 obtain ⟨g,m,P,r,R,k,res,e,q⟩:=h;refine ⟨g,m,P,r,R,_,res,e,fun d m1 g1 P1 Pv v H1 hk ag s rv r1 n=>?_⟩;replace hk:=HF hk;obtain ⟨b,rfl,hk⟩:=hk;have s1:Step _ _ _ g1 P1 H1:=s.less fun _ z=>.inl z
 refine ⟨b,rep_bl rv,?_⟩;cases b with
 | true=>rw [if_pos rfl] at hk ⊢;exact ⟨g1,m1,P1,r1,R,k,res,hk,fun d m2 g2 P2 Pw w H2 hk2 ag2 s2 rv2 r2 n2=>q d m2 g2 P2 Pw w H2 hk2 (ag.trans ag2) (s1.trans s2) rv2 r2 n2⟩
 | false =>
  rw [if_neg Bool.false_ne_true] at hk ⊢;obtain ⟨g2,P2,s2,r2⟩:=r1.weaken hw;exact q _ m1 g2 P2 nop _ H1 hk (ag.mono fun _ z=>List.mem_append_left _ z) ((s1.trans s2).less fun _ z=>z.elim id False.elim) CL r2 fun _ _ z=>z
theorem bx (hw:BQ Γ' Γ2=true) (h:tE K Γ 0 Γ' (js++js2) (Xp f u) σ H Q):bu (tE K Γ 0 Γ2 js f) (tE K Γ2 0 Γ' js2 u) σ H Q:=by
 obtain ⟨g,m,P,r,R,k,res,e,q⟩:=h;refine ⟨g,m,P,r,R,_,res,e,fun d m1 g1 P1 Pv v H1 hk ag s rv r1 n=>?_⟩;replace hk:=HF hk;obtain ⟨b,rfl,hk⟩:=hk;have s1:Step _ _ _ g1 P1 H1:=s.less fun _ z=>.inl z
 refine ⟨b,rep_bl rv,?_⟩;cases b with
 | false=>rw [if_neg Bool.false_ne_true] at hk ⊢;exact ⟨g1,m1,P1,r1,R,k,res,hk,fun d m2 g2 P2 Pw w H2 hk2 ag2 s2 rv2 r2 n2=>q d m2 g2 P2 Pw w H2 hk2 (ag.trans ag2) (s1.trans s2) rv2 r2 n2⟩
 | true =>
  rw [if_pos rfl] at hk ⊢;obtain ⟨g2,P2,s2,r2⟩:=r1.weaken hw;exact q _ m1 g2 P2 nop _ H1 hk (ag.mono fun _ z=>List.mem_append_left _ z) ((s1.trans s2).less fun _ z=>z.elim id False.elim) CL r2 fun _ _ z=>z
theorem YT (h:tE K Γ 0 Γ' js (SQ f) σ H Q):XM (tE K Γ 0 Γ' js f) σ H Q:=by
 obtain ⟨g,m,P,r,R,k,res,e,q⟩:=h;refine ⟨g,m,P,r,R,_,res,e,fun d m1 g1 P1 Pv v H1 hk ag s rv r1 n=>?_⟩;replace hk:=HF hk;obtain ⟨b,rfl,hk⟩:=hk;exact ⟨b,rep_bl rv,q _ m1 g1 P1 nop _ H1 hk ag (s.less fun _ z=>z.elim .inl False.elim) CL r1 fun _ _ z=>z⟩
end
def eT (r:Rec) (C:Cf) (Γ:Gm) (x:Expr):Option CE:=(r.E C Γ x).bind fun c=>some ⟨0,c.Γ,c.js,SQ c.f⟩
def Qf (r:Rec) (C:Cf) (Γ:Gm) (op:BoolOp) (vs:List Expr) (pos:Pos):Option CE:=match vs with
 | []=>none
 | [a]=>r.E C Γ a
 | a::b::vs=>(r.E C Γ a).bind fun x=>(r.E C x.Γ (.BoolOp op (b::vs) pos)).bind fun y=>let Γ':=BV x.Γ y.Γ;let js:=x.js++y.js;if BQ Γ' x.Γ && BQ Γ' y.Γ then some ⟨0,Γ',js,Ma (Aq Γ' js) (match op with | .And=>Sa x.f y.f | .Or=>Xp x.f y.f)⟩ else none
theorem OP {r:Rec} (R:OkR r) {C:Cf} {X:Cx} {Γ:Gm} {op:BoolOp} {vs:List Expr} {pos:Pos} {c:CE} (ok:Cok C X) (h:Qf r C Γ op vs pos=some c):PE X (.BoolOp op vs pos) (tE X.K Γ c.o c.Γ c.js c.f):=by
 match vs,h with
 | [],h=>cases h
 | [a],h=>exact ZS (R.E ok h)
 | a::b::vs,h =>
  obtain ⟨x,e1,h⟩:=bind_some' h;obtain ⟨y,e2,h⟩:=bind_some' h;simp only at h;split at h
  ·rename_i hw;rw [Bool.and_eq_true] at hw;have ha:=DT (R.E ok e1);have hb:=DT (R.E ok e2);have jk:∀ (i o:Nat),(BV x.Γ y.Γ)[i]?=some (some o)->i∈Aq (BV x.Γ y.Γ) (x.js++y.js)\/i∉x.js++y.js:=fun i o h=>BH h
   cases op with
   | And=>cases h;exact PE.imp (ZX ha (PE.imp hb fun _ _ _ h=>Fj hw.2 (fun _ z=>z) h)) fun σ H Q h=>YU hw.1 (Fo jk (fun i z=>Ap z) h)
   | Or=>cases h;exact PE.imp (dH ha (PE.imp hb fun _ _ _ h=>Fj hw.2 (fun _ z=>z) h)) fun σ H Q h=>bx hw.1 (Fo jk (fun i z=>Ap z) h)
  ·cases h
def eX (r:Rec) (C:Cf) (Γ:Gm) (c a b:Expr):Option CE:=(r.T C Γ c).bind fun t=>(r.E C t.Γ a).bind fun x=>(r.E C t.Γ b).bind fun y=>let Γ':=BV x.Γ y.Γ;let js:=t.js++(x.js++y.js);if BQ Γ' x.Γ && BQ Γ' y.Γ then some ⟨0,Γ',js,Ma (Aq Γ' js) (HB t.f x.f y.f)⟩ else none
theorem Wf {r:Rec} (R:OkR r) {C:Cf} {X:Cx} {Γ:Gm} {c a b:Expr} {pos:Pos} {d:CE} (ok:Cok C X) (h:eX r C Γ c a b=some d):PE X (.IfExp c a b pos) (tE X.K Γ d.o d.Γ d.js d.f):=by
 obtain ⟨t,e1,h⟩:=bind_some' h;obtain ⟨x,e2,h⟩:=bind_some' h;obtain ⟨y,e3,h⟩:=bind_some' h;simp only at h;split at h
 ·rename_i hw;rw [Bool.and_eq_true] at hw;cases h;exact PE.imp (Rc (R.T ok e1) (PE.imp (DT (R.E ok e2)) fun _ _ _ h=>Fj hw.1 (fun _ z=>z) h) (PE.imp (DT (R.E ok e3)) fun _ _ _ h=>Fj hw.2 (fun _ z=>z) h)) fun σ H Q h=>bz (Fo (fun i o z=>BH z) (fun i z=>Ap z) h)
 ·cases h
theorem BG {es:List Expr} {env:Env} {pos:Pos} (h:es.all Ae=true):(backTo pos (starEach es env)).any (·.1)=false:=by
 induction es with
 | nil=>rfl
 | cons e es ih =>
  rw [List.all_cons,Bool.and_eq_true] at h;rw [AF h.1];show (false || (backTo pos (starEach es env)).any (·.1))=false;rw [ih h.2];rfl
theorem bK {es:List Expr} {env:Env} {pos:Pos} (h:es.all Ae=true):(backTo pos (starEach es env)).all (fun x=>!x.1)=true:=by
 induction es with
 | nil=>rfl
 | cons e es ih =>
  rw [List.all_cons,Bool.and_eq_true] at h;rw [AF h.1];show (true && (backTo pos (starEach es env)).all (fun x=>!x.1))=true;rw [ih h.2];rfl
def Xx (r:Rec) (C:Cf) (Γ:Gm) (s:Sig) (es:List Expr):Option CE:=(r.A C Γ ((List.range es.length).map s.io.contains) es).bind fun c=>if fQ c.as s.io && (es.length == s.ps.length) && (slots c.as s.io).all (fun i=>c.Γ.getD i none == some 1) then some ⟨s.ro,c.Γ,c.js++slots c.as s.io,Mb s c.as⟩ else none
theorem TF {r:Rec} (R:OkR r) {C:Cf} {X:Cx} {Γ:Gm} {x:Str} {s:Sig} {es:List Expr} {p pos:Pos} {c:CE} (ok:Cok C X) (hs:(x,s)∈C.fs) (hg:Gl X x) (hn:UG x=true) (h:Xx r C Γ s es=some c):PE X (.Call (.Name x p) es [] pos) (tE X.K Γ c.o c.Γ c.js c.f):=by
 obtain ⟨c1,e1,h⟩:=bind_some' h;split at h
 ·rename_i hw;simp only [Bool.and_eq_true,List.all_eq_true,beq_iff_eq] at hw;cases h;obtain ⟨a1,a2,a3,a4,_⟩:=R.A ok e1;obtain ⟨nd,hio,j,kk,hj,hrm,F⟩:=ok.fs x s hs;have run:∀ {σ H Q},tE X.K Γ s.ro c1.Γ (c1.js++slots c1.as s.io) (Mb s c1.as) σ H Q->fP (UF X.K s) (Bn X.K c1.as) σ H Q:=fun h=>Su a2 hw.1.1 (a3.trans hw.1.2) nd hio (fun i hi=>Bg (hw.2 i hi)) h
  cases es with
  | nil =>
   have e:c1.as=[]:=List.eq_nil_of_length_eq_zero a3;refine PE.imp (Re F hrm hj hg (DB hn).1) fun σ H Q h=>?_
   have:=run h;rw [e] at this;exact this
  | cons e es =>
   rw [List.all_cons,Bool.and_eq_true] at a4;exact PE.imp (XY F hrm hj hg a1 (DB hn).1 (AF a4.1) (BG a4.2)) fun σ H Q h=>run h
 ·cases h
def Xw (r:Rec) (C:Cf) (Γ:Gm) (s:Sig) (es:List Expr):Option CE:=(r.A C Γ (List.replicate es.length true) es).bind fun c=>if es.length == s.ps.length then some ⟨1,c.Γ,c.js,JW s c.as⟩ else none
theorem TC {r:Rec} (R:OkR r) {C:Cf} {X:Cx} {Γ:Gm} {x:Str} {s:Sig} {es:List Expr} {p pos:Pos} {c:CE} (ok:Cok C X) (hs:(x,s)∈C.fs) (hio:s.io=[]) (hg:Gl X x) (hn:UG x=true) (h:Xw r C Γ s es=some c):PE X (.Call (.Name x p) es [] pos) (tE X.K Γ c.o c.Γ c.js c.f):=by
 obtain ⟨c1,e1,h⟩:=bind_some' h;split at h
 ·rename_i hw;rw [beq_iff_eq] at hw;cases h;obtain ⟨a1,a2,a3,a4,_⟩:=R.A ok e1;obtain ⟨nd,_,j,kk,hj,hrm,F⟩:=ok.fs x s hs;have run:∀ {σ H Q},tE X.K Γ 1 c1.Γ c1.js (JW s c1.as) σ H Q->fP (UF X.K s) (Bn X.K c1.as) σ H Q:=fun h=>PM a2 hio (a3.trans hw) h
  cases es with
  | nil =>
   have e:c1.as=[]:=List.eq_nil_of_length_eq_zero a3;refine PE.imp (Re F hrm hj hg (DB hn).1) fun σ H Q h=>?_
   have:=run h;rw [e] at this;exact this
  | cons e es =>
   rw [List.all_cons,Bool.and_eq_true] at a4;exact PE.imp (XY F hrm hj hg a1 (DB hn).1 (AF a4.1) (BG a4.2)) fun σ H Q h=>run h
 ·cases h
def ai (r:Rec) (C:Cf) (Γ:Gm) (s:Sig) (es:List Expr):Option CE:=if s.nb && s.io.isEmpty then Xw r C Γ s es else Xx r C Γ s es
theorem Wb {r:Rec} (R:OkR r) {C:Cf} {X:Cx} {Γ:Gm} {x:Str} {s:Sig} {es:List Expr} {p pos:Pos} {c:CE} (ok:Cok C X) (hs:(x,s)∈C.fs) (hg:Gl X x) (hn:UG x=true) (h:ai r C Γ s es=some c):PE X (.Call (.Name x p) es [] pos) (tE X.K Γ c.o c.Γ c.js c.f):=by
 unfold ai at h;split at h
 ·rename_i z;rw [Bool.and_eq_true,List.isEmpty_iff] at z;exact TC R ok hs z.2 hg hn h
 ·exact TF R ok hs hg hn h
def TB (r:Rec) (C:Cf) (Γ:Gm) (en:CallE) (es:List Expr):Option CE:=if es.isEmpty then none else (r.A C Γ (List.replicate es.length true) es).bind fun c=>some ⟨en.o,c.Γ,c.js,DY en.f (AQ c.as)⟩
theorem Sz {r:Rec} (R:OkR r) {C:Cf} {X:Cx} {Γ:Gm} {en:CallE} {es:List Expr} {p pos:Pos} {c:CE} (ok:Cok C X) (hb:en.x∈C.bl) (hg:Gl X en.x) (hn:UG en.x=true) (h:TB r C Γ en es=some c):PE X (.Call (.Name en.x p) es [] pos) (tE X.K Γ c.o c.Γ c.js c.f):=by
 cases es with
 | nil=>cases h
 | cons e es =>
  unfold TB at h;rw [if_neg (by simp)] at h;obtain ⟨c1,e1,h⟩:=bind_some' h;cases h;obtain ⟨a1,a2,a3,a4,_⟩:=R.A ok e1;rw [List.all_cons,Bool.and_eq_true] at a4;obtain ⟨rr,q1,q2⟩:=en.ok X ok.gx;have n:=DB hn;rcases q2 with ⟨id,q2,q3⟩ | ⟨T,q2,q3⟩
  ·exact PE.imp (Rf q2 hg (ok.bl _ hb) q3 a1 n.2.2 n.1 (AF a4.1) (BG a4.2)) fun _ _ _ h=>Bm q1 a2 h
  ·exact PE.imp (Og q2 hg (ok.bl _ hb) q3 a1 n.2.2 n.1 (AF a4.1) (BG a4.2)) fun _ _ _ h=>Bm q1 a2 h
noncomputable def Td:Expr->Bool
 | .Call _ _ _ _=>false
 | _=>true
theorem Ek {o:Expr} {name:Str} {env:Env} {w:Sem Value} (h:Td o=true):attributeBase o name env w=w:=by
 cases o<;>first | rfl | (cases h)
def aj (r:Rec) (C:Cf) (Γ:Gm) (en:MutE) (i:Nat) (es:List Expr):Option CE:=if es.length < 29 && (Γ.getD i none).isSome then (r.A C Γ [] es).bind fun c=>if c.Γ.getD i none == some 1 then some ⟨0,c.Γ,c.js++[i],SR en.T i en.p (AQ c.as)⟩ else none else none
theorem MY {e:Expr} {es:List Expr} {env:Env} {pos:Pos} (h:(e::es).all Ae=true) (hl:(e::es).length < 29):((backTo pos (starEach (e::es) env)).all (fun x=>!x.1) && (backToKw pos (keywordEach [] env)).all (fun x=>x.1.isSome)
      && decide ((e::es).length+([]:List Keyword).length+(if ([]:List Keyword).isEmpty then 0 else 1) < 30))=true:=by
  rw [bK h];show (true && true && decide _)=true;simp only [Bool.and_self,Bool.true_and,decide_eq_true_eq,List.length_nil,List.isEmpty_nil,if_true];omega
theorem Wd {r:Rec} (R:OkR r) {C:Cf} {X:Cx} {Γ:Gm} {en:MutE} {i:Nat} {o:Expr} {es:List Expr} {apos pos:Pos} {c:CE} (ok:Cok C X) (hi:Vk C o=some i) (hline:(apos.endLine == pos.line)=true) (h:aj r C Γ en i es=some c):PE X (.Call (.Attribute o en.x apos) es [] pos) (tE X.K Γ c.o c.Γ c.js c.f):=by
 unfold aj at h;split at h
 ·rename_i h0;simp only [Bool.and_eq_true,decide_eq_true_eq] at h0;obtain ⟨c1,e1,h⟩:=bind_some' h;split at h
  ·rename_i h1;cases h;obtain ⟨a1,a2,a3,a4,a5⟩:=R.A ok e1;obtain ⟨id,rr,q1,q2,q3,q4,q5⟩:=en.ok X ok.gx;have ho:=EE ok hi;have hbase:attributeBase o en.x X.env (eval o X.env)=eval o X.env:=Ek (by cases o<;>first | rfl | (cases hi));have run:∀ {σ H Q},tE X.K Γ 0 c1.Γ (c1.js++[i]) (SR en.T i en.p (AQ c1.as)) σ H Q->cC X.K en.T rr (HS i) (Bn X.K c1.as) σ H Q:=fun h=>Vg q5 en.hT a2 (a5 rfl) (getD_some h0.2) (Bg (beq_iff_eq.mp h1)) h
   cases es with
   | nil =>
    have e:c1.as=[]:=List.eq_nil_of_length_eq_zero a3;refine PE.imp (Rh q1 q2 q3 q4 ho hbase hline) fun σ H Q h=>?_
    have:=run h;rw [e] at this;exact this
   | cons e es =>
    have a4':=a4;rw [List.all_cons,Bool.and_eq_true] at a4;exact PE.imp (XZ q1 q2 q3 q4 ho a1 hbase (MY a4' h0.1) hline (AF a4.1) (BG a4.2)) fun σ H Q h=>run h
  ·cases h
 ·cases h
def eV (r:Rec) (C:Cf) (Γ:Gm) (en:MethE) (o:Expr) (es:List Expr):Option CE:=if es.length < 29 && Td o then (DZ r C Γ true o).bind fun x=>(r.A C x.Γ (List.replicate es.length true) es).bind fun c=>if DJ x.a c.Γ then some ⟨en.o,c.Γ,x.js++c.js,SS en.T x.a c.as en.f⟩ else none else none
theorem Mm {r:Rec} (R:OkR r) {C:Cf} {X:Cx} {Γ:Gm} {en:MethE} {o:Expr} {es:List Expr} {apos pos:Pos} {c:CE} (ok:Cok C X) (hline:(apos.endLine == pos.line)=true) (hn:en.n=es.length) (h:eV r C Γ en o es=some c):PE X (.Call (.Attribute o en.x apos) es [] pos) (tE X.K Γ c.o c.Γ c.js c.f):=by
 unfold eV at h;split at h
 ·rename_i h0;simp only [Bool.and_eq_true,decide_eq_true_eq] at h0;obtain ⟨x,e0,h⟩:=bind_some' h;obtain ⟨c1,e1,h⟩:=bind_some' h;split at h
  ·rename_i h1;cases h;obtain ⟨o1,_,o2⟩:=BS R ok e0;obtain ⟨a1,a2,a3,a4,a5⟩:=R.A ok e1;obtain ⟨id,rr,q1,q2,q3,q4,q5⟩:=en.ok X ok.gx;have hbase:attributeBase o en.x X.env (eval o X.env)=eval o X.env:=Ek h0.2;rcases en.hT with hT | ⟨hT,hT1⟩
   ·have run:∀ {σ H Q},tE X.K Γ en.o c1.Γ (x.js++c1.js) (SS en.T x.a c1.as en.f) σ H Q->cC X.K en.T rr (HN X.K x.a) (Bn X.K c1.as) σ H Q:=fun h=>Zp q5 hT (o2 a2 h1) h
    cases es with
    | nil =>
     have e:c1.as=[]:=List.eq_nil_of_length_eq_zero a3;refine PE.imp (Rh q1 q2 q3 q4 o1 hbase hline) fun σ H Q h=>?_
     have:=run h;rw [e] at this;exact this
    | cons e es =>
     have a4':=a4;rw [List.all_cons,Bool.and_eq_true] at a4;exact PE.imp (XZ q1 q2 q3 q4 o1 a1 hbase (MY a4' h0.1) hline (AF a4.1) (BG a4.2)) fun σ H Q h=>run h
   ·have run:∀ {σ H Q},tE X.K Γ en.o c1.Γ (x.js++c1.js) (SS en.T x.a c1.as en.f) σ H Q->gI rr (HN X.K x.a) (Bn X.K c1.as) σ H Q:=fun h=>Vi q5 (o2 a2 h1) (by rw [hT] at h;exact h)
    rw [hT] at q1 q2;cases es with
    | nil=>rw [hT1] at hn;cases hn
    | cons e es =>
     have a4':=a4;rw [List.all_cons,Bool.and_eq_true] at a4;exact PE.imp (dM q1 q2 q3 q4 o1 a1 hbase (MY a4' h0.1) hline (AF a4.1) (BG a4.2)) fun σ H Q h=>run h
  ·cases h
 ·cases h
def aZ (c1 c2:CE):Option CE:=if c1.o == c2.o && c1.Γ == c2.Γ && c1.js == c2.js then some ⟨c1.o,c1.Γ,c1.js,Ma (Aq c1.Γ c1.js) (evOr c1.f c2.f)⟩ else none
theorem WV {X:Cx} {Γ:Gm} {e:Expr} {c1 c2 c:CE} (h1:PE X e (tE X.K Γ c1.o c1.Γ c1.js c1.f)) (h2:PE X e (tE X.K Γ c2.o c2.Γ c2.js c2.f)) (h:aZ c1 c2=some c):PE X e (tE X.K Γ c.o c.Γ c.js c.f):=by
 unfold aZ at h;split at h
 ·rename_i h0;simp only [Bool.and_eq_true,beq_iff_eq] at h0;obtain ⟨⟨e1,e2⟩,e3⟩:=h0;cases h;rw [<- e1,<- e2,<- e3] at h2;intro pins s σ H Q I q;rcases YS (Fo (fun i o z=>BH z) (fun i z=>Ap z) q) with q | q
  ·exact h1 pins s σ H Q I q
  ·exact h2 pins s σ H Q I q
 ·cases h
def gc (r:Rec) (C:Cf) (Γ:Gm) (o:Expr) (es:List Expr):List MethE->Option CE
 | []=>none
 | [en]=>eV r C Γ en o es
 | en::en2::_=>(eV r C Γ en o es).bind fun c1=>(eV r C Γ en2 o es).bind fun c2=>aZ c1 c2
def Ny (r:Rec) (C:Cf) (Γ:Gm) (f:Expr) (es:List Expr) (pos:Pos):Option CE:=match f with
  | .Name x _=>if JP C.sc x && UG x then (match C.fs.find? fun p=>p.1 == x with
      | some p=>ai r C Γ p.2 es
      | none=>(C.T.calls.find? fun e=>e.x == x && e.n == es.length).bind fun en=>if C.bl.contains x then TB r C Γ en es else none) else none
  | .Attribute o name apos=>if apos.endLine == pos.line then (match C.T.muts.find? fun e=>e.x == name && e.n == es.length with
      | some en=>(Vk C o).bind fun i=>aj r C Γ en i es
      | none=>gc r C Γ o es (C.T.meths.filter fun e=>e.x == name && e.n == es.length)) else none
  | _=>none
theorem TN {r:Rec} (R:OkR r) {C:Cf} {X:Cx} {Γ:Gm} {f:Expr} {es:List Expr} {pos:Pos} {c:CE} (ok:Cok C X) (h:Ny r C Γ f es pos=some c):PE X (.Call f es [] pos) (tE X.K Γ c.o c.Γ c.js c.f):=by
  cases f with
  | Name x p =>
    simp only [Ny] at h;split at h
    · rename_i h0;rw [Bool.and_eq_true] at h0;split at h
      · rename_i p' hp;have e:p'.1=x:=by simpa using List.find?_some hp
        have hm:=List.mem_of_find?_eq_some hp;exact Wb R ok (s:=p'.2) (by rw [<- e];exact hm) (Bw ok h0.1) h0.2 h
      · replace h:=bind_some' h;obtain ⟨en,e1,h⟩:=h;split at h
        · rename_i hb;have e:=List.find?_some e1;simp only [Bool.and_eq_true,beq_iff_eq] at e;obtain ⟨rfl,_⟩:=e;exact Sz R ok (List.contains_iff_mem.mp hb) (Bw ok h0.1) h0.2 h
        · cases h
    · cases h
  | Attribute o name apos =>
    simp only [Ny] at h;split at h
    · rename_i hl;split at h
      · rename_i en he;have e:=List.find?_some he;simp only [Bool.and_eq_true,beq_iff_eq] at e;obtain ⟨rfl,_⟩:=e;obtain ⟨i,e1,h⟩:=bind_some' h;exact Wd R ok e1 hl h
      · have hm:∀ en∈C.T.meths.filter fun e=>e.x == name && e.n == es.length,en.x=name/\en.n=es.length:=fun en he=>by
          have:=(List.mem_filter.mp he).2;simp only [Bool.and_eq_true,beq_iff_eq] at this;exact this
        revert h hm
        generalize (C.T.meths.filter fun e=>e.x == name && e.n == es.length)=L;intro h hm
        match L,hm,h with
        | [],hm,h=>cases h
        | [en],hm,h =>
          obtain ⟨rfl,e2⟩:=hm en List.mem_cons_self;exact Mm R ok hl e2 h
        | en::en2::_,hm,h =>
          obtain ⟨c1,e1,h⟩:=bind_some' h;obtain ⟨c2,e2,h⟩:=bind_some' h;obtain ⟨q1,q2⟩:=hm en List.mem_cons_self;obtain ⟨q3,q4⟩:=hm en2 (List.mem_cons_of_mem _ List.mem_cons_self);have p1:=Mm (pos:=pos) (apos:=apos) R ok hl q2 e1;have p2:=Mm (pos:=pos) (apos:=apos) R ok hl q4 e2;rw [q1] at p1;rw [q3] at p2;exact WV p1 p2 h
    · cases h
  | _=>cases h
def Ju (C:Cf) (x:Str):Option Nat:=if UG x then (match C.sc.names.lookup x with
 | some .local=>Cw C.N x
 | some .cell=>if C.fn x then Cw C.N x else none
 | _=>none) else none
theorem Fw {C:Cf} {X:Cx} {x:Str} {i:Nat} (ok:Cok C X) (h:Ju C x=some i):X.N[i]?=some x/\Loc X.env.scope x/\(X.fn x=true\/X.env.scope.names.lookup x=some .local):=by
 unfold Ju at h;split at h
 ·split at h
  ·rename_i e;rw [ok.N,ok.sc];exact ⟨BY h,.inl e,.inr e⟩
  ·rename_i e;split at h
   ·rename_i hf;rw [ok.N,ok.sc];exact ⟨BY h,.inr e,.inl (ok.fn x hf)⟩
   ·cases h
  ·cases h
 ·cases h
theorem OB {C:Cf} {X:Cx} {x:Str} {i:Nat} {pos:Pos} (ok:Cok C X) (h:Ju C x=some i):PG X (.Name x pos) (DW i):=by
 obtain ⟨h1,h2,h3⟩:=Fw ok h;exact VP ok.nd h1 h2 h3
def bj (C:Cf):List Expr->Option (List Nat)
 | []=>some []
 | .Name x _::es=>(Ju C x).bind fun i=>(bj C es).bind fun J=>some (i::J)
 | _::_=>none
theorem QP {C:Cf} {X:Cx} (ok:Cok C X):∀ {es:List Expr} {J:List Nat},bj C es=some J->bc X es (EG J)/\(assignEach es X.env).length=J.length/\(assignEach es X.env).findIdx? (·.1)=none
 | [],J,h=>by cases h;exact ⟨VO,rfl,rfl⟩
 | e::es,J,h=>by
  cases e with
  | Name x pos =>
   obtain ⟨i,e1,h⟩:=bind_some' (show (Ju C x).bind (fun i=>(bj C es).bind fun J=>some (i::J))=some J from h);obtain ⟨J',e2,h⟩:=bind_some' h;cases h;obtain ⟨h1,h2,h3⟩:=QP ok e2;refine ⟨Ra (OB ok e1) h1 rfl,?_,?_⟩
   ·show (assignEach es X.env).length+1=_;rw [h2];rfl
   ·show List.findIdx? (·.1) ((false,assign (.Name x pos) X.env)::assignEach es X.env)=none;rw [List.findIdx?_cons,h3];rfl
  | _=>cases h
structure CG:Type 1 where
 J:List Nat
 f:Tg
 g:W.Frag->TG
 Γ:Gm->Gm
def cG (C:Cf) (e:Expr):Option CG:=match e with
 | .Name x _=>(Ju C x).map fun i=>⟨[i],bo i,fun _=>DW i,fun Γ=>Γ.set i (some 0)⟩
 | .Tuple es _ _=>(bj C es).map fun J=>⟨J,iB J,fun K=>eA K J.length (EG J),fun Γ=>Ye Γ J (some 0)⟩
 | _=>none
theorem FZ {C:Cf} {X:Cx} {e:Expr} {c:CG} (ok:Cok C X) (h:cG C e=some c):PG X e (c.g X.K)/\(∀ js,(∀ i∈c.J,i∈js)->QA js (c.g X.K))/\∀ {K Γ},c.J.all (fun i=>decide (i < Γ.length))=true->Mt K Γ (c.Γ Γ) c.J (c.g K) c.f:=by
 cases e with
 | Name x pos =>
  cases q:Ju C x with
  | none=>simp only [cG,q] at h;cases h
  | some i =>
   simp only [cG,q] at h;cases h;exact ⟨OB ok q,fun js hj=>SL (hj i (List.mem_singleton_self _)),fun h=>UT (by simpa using h)⟩
 | Tuple es k pos =>
  cases q:bj C es with
  | none=>simp only [cG,q] at h;cases h
  | some J =>
   simp only [cG,q] at h;cases h;obtain ⟨h1,h2,h3⟩:=QP ok q;exact ⟨PG.or (ZM ok.calm h1 h2 h3) (ZO ok.calm h1 h2 h3),fun js hj=>aK (Vr (EF J hj)) (Vs (EF J hj)),fun h=>QQ (by simpa using h)⟩
 | _=>cases h
def gZ (r:Rec) (C:Cf) (Γ:Gm) (en:SrcE) (es:List Expr):Option CI:=(r.A C Γ [] es).bind fun c=>some ⟨c.Γ,c.js,Xm en.f (AQ c.as)⟩
def ae (r:Rec) (C:Cf) (Γ:Gm) (e:Expr):Option CI:=(r.E C Γ e).bind fun c=>some ⟨c.Γ,c.js,Nl c.f⟩
def Qc (r:Rec) (C:Cf) (Γ:Gm) (tt:Bool) (e:Expr):Option CI:=match e with
  | .Call (.Name x _) es [] _=>(match C.T.srcs.find? fun en=>en.x == x && en.n == es.length && (!en.tt || tt) with
      | some en=>if JP C.sc x && C.bl.contains x && (C.fs.find? fun p=>p.1 == x).isNone then gZ r C Γ en es else none
      | none=>ae r C Γ e)
  | e=>ae r C Γ e
theorem Qb {r:Rec} (R:OkR r) {C:Cf} {X:Cx} {Γ:Gm} {e:Expr} {c:CI} (tg:Expr) (ok:Cok C X) (h:Qc r C Γ (LA tg) e=some c):PI X tg e (tI X.K Γ c.Γ c.js c.f):=by
 have seq:ae r C Γ e=some c->PI X tg e (tI X.K Γ c.Γ c.js c.f):=fun h=>by
  obtain ⟨c1,e1,h⟩:=bind_some' h;cases h;exact dk (DT (R.E ok e1))
 unfold Qc at h;split at h
 ·rename_i x p es pos;split at h
  ·rename_i en he;split at h
   ·rename_i h0;simp only [Bool.and_eq_true] at h0;have e:=List.find?_some he;simp only [Bool.and_eq_true,beq_iff_eq] at e;obtain ⟨⟨rfl,hn⟩,htt⟩:=e;obtain ⟨c1,e1,h⟩:=bind_some' h;cases h;obtain ⟨a1,a2,a3,a4,a5⟩:=R.A ok e1;obtain ⟨rr,q1,q2⟩:=en.ok X ok.gx;exact PI.imp (q2 tg es p pos _ (fun z=>by rw [z] at htt;simpa using htt) hn.symm a4 (Bw ok h0.1.1) (ok.bl _ (List.contains_iff_mem.mp h0.1.2)) a1) fun _ _ _ h=>UW q1 a2 (a5 rfl) h
   ·cases h
  ·exact seq h
 ·exact seq h
def GY (scope sc:Scope):Scope:={ scope with names:=scope.names.map fun (n,k)=>if (k == .free && sc.kind == .function && sc.names.lookup n == some .cell) then (n,.cell) else (n,k) }
def Cf.inner (C:Cf) (scope:Scope):Cf:={ C with sc:=GY scope C.sc,fn:=AJ scope }
theorem Cok.inner {C:Cf} {X:Cx} (ok:Cok C X) (scope:Scope) (cl:List (Str×Addr)) (a:Addr) (s:Shared) (H:Hp) (fp:List Addr):Cok (C.inner scope) (X.inner scope cl a s H fp) where
 N:=ok.N
 sc:=by
  show relabel scope X.env=GY scope C.sc;unfold relabel GY Env.kindOf;rw [ok.sc]
 nd:=ok.nd
 calm:=ok.calm
 fn:=fun _ h=>h
 room:=ok.room
 fs:=ok.fs
 cs:=ok.cs
 bl:=ok.bl
 xe:=rfl
noncomputable def MG (N:List Str) (scope:Scope):List Nat:=(List.range N.length).filter fun i=>match N[i]? with
 | some x=>(match scope.names.lookup x with | some .local=>true | some .cell=>true | _=>false)
 | none=>false
structure CC:Type 1 where
 t:CG
 c:CT
 e:CE
def KJ (r:Rec) (C:Cf) (Γl:Gm) (tg:CG) (ifs:List Expr) (elt:Expr):Option CC:=if tg.J.all (fun i=>decide (i < Γl.length)) then (match ifs with
 | []=>some (CT.mk (tg.Γ Γl) [] DX)
 | [c]=>r.T C (tg.Γ Γl) c
 | _=>none).bind fun c=>(r.E C c.Γ elt).bind fun e=>some ⟨tg,c,e⟩ else none
def aR (r:Rec) (C:Cf) (tg:CG) (ifs:List Expr) (elt:Expr):Nat->Gm->Option (Gm×CC)
 | 0,_=>none
 | n+1,Γl=>(KJ r C Γl tg ifs elt).bind fun x=>if BQ Γl x.c.Γ && BQ Γl x.e.Γ then some (Γl,x) else aR r C tg ifs elt n (BV Γl (BV x.c.Γ x.e.Γ))
def IU (r:Rec) (C:Cf) (Γ:Gm) (elt:Expr) (gens:List Comprehension) (scope:Scope):Option CE:=match gens with
  | [⟨tg,iter,ifs,0⟩]=>(match iter with | .Set _ _ _=>none | _=>r.I C Γ (LA tg) iter).bind fun s=>let jx:=MG C.N scope;if innerOk C.N C.sc scope jx then (cG (C.inner scope) tg).bind fun t=>(aR r (C.inner scope) t ifs elt 4 (LY jx s.Γ)).bind fun p =>
      let J:=Aq p.1 (t.J++(p.2.c.js++p.2.e.js))
      if BQ p.1 (LY jx s.Γ) && t.J.all jx.contains then some ⟨1,KQ jx s.Γ p.1,s.js++(t.J++(p.2.c.js++p.2.e.js)),match J,ifs with
        | [],[]=>SU s.f t.f p.2.e.f
        | [],_=>SV s.f t.f p.2.c.f p.2.e.f
        | J,[]=>Nn s.f t.f J p.2.e.f
        | J,_=>Nm s.f t.f J p.2.c.f p.2.e.f⟩ else none else none
  | _=>none
theorem JV {r:Rec} {C:Cf} {tg:CG} {ifs:List Expr} {elt:Expr}:∀ {n:Nat} {Γ:Gm} {p:Gm×CC},aR r C tg ifs elt n Γ=some p->KJ r C p.1 tg ifs elt=some p.2/\BQ p.1 p.2.c.Γ=true/\BQ p.1 p.2.e.Γ=true
 | 0,_,_,h=>by cases h
 | n+1,Γ,p,h=>by
  obtain ⟨x,e1,h⟩:=bind_some' (show (KJ r C Γ tg ifs elt).bind _=some p from h);split at h
  ·rename_i hw;rw [Bool.and_eq_true] at hw;cases h;exact ⟨e1,hw.1,hw.2⟩
  ·exact JV h
theorem Ri {X:Cx} {Γ:Gm}:UI X [] (tT X.K Γ Γ [] DX):=fun pins s σ H Q I h=>by
 obtain ⟨g,m,P,r,R,k,res,e,q⟩:=h;exact wpAny_tests_nil ⟨H,I,q true m g P H e BW.refl Step.refl r⟩
theorem LU {r:Rec} (R:OkR r) {C:Cf} {X:Cx} {Γ:Gm} {elt:Expr} {gens:List Comprehension} {scope:Scope} {pos:Pos} {c:CE} (ok:Cok C X) (h:IU r C Γ elt gens scope=some c):PE X (.ListComp elt gens scope pos) (tE X.K Γ c.o c.Γ c.js c.f):=by
 unfold IU at h;split at h
 ·rename_i tg iter ifs;obtain ⟨s,e1,h⟩:=bind_some' h;simp only at h;split at h
  ·rename_i hin;obtain ⟨t,e2,h⟩:=bind_some' h;obtain ⟨p,e3,h⟩:=bind_some' h;split at h
   ·rename_i hw;rw [Bool.and_eq_true] at hw;cases h;obtain ⟨f1,f2,f3⟩:=JV e3;unfold KJ at f1;split at f1
    ·rename_i hj;obtain ⟨ct,f1a,f1⟩:=bind_some' f1;obtain ⟨ce,f1b,f1⟩:=bind_some' f1;have ep:p.2=⟨t,ct,ce⟩:=(Option.some.inj f1).symm;have hs:∀ x,foldedSetIterable iter X.env x=pure x:=fun x=>by cases iter<;>first | rfl | (cases e1)
     have hI:r.I C Γ (LA tg) iter=some s:=by cases iter<;>first | exact e1 | (cases e1)
     have hi:=R.I tg ok hI;have okI:=fun cl a s H fp=>ok.inner scope cl a s H fp
     have hg:∀ cl a s H fp,PG (X.inner scope cl a s H fp) tg (t.g X.K):=fun cl a s H fp=>(FZ (okI cl a s H fp) e2).1
     have hsx:∀ i∈t.J,i∈MG C.N scope:=fun i hi=>List.contains_iff_mem.mp ((List.all_eq_true.mp hw.2) i hi)
     have hgo:QA (MG C.N scope) (t.g X.K):=(FZ (okI [] 0 X.s₀ X.H₀ []) e2).2.1 _ hsx;have ht:Mt X.K p.1 (t.Γ p.1) t.J (t.g X.K) t.f:=(FZ (okI [] 0 X.s₀ X.H₀ []) e2).2.2 hj;have he:∀ cl a s H fp,PE (X.inner scope cl a s H fp) elt (tE X.K ct.Γ 0 ce.Γ ce.js ce.f):=fun cl a s H fp=>DT (R.E (okI cl a s H fp) f1b)
     have hin':innerOk X.N X.env.scope scope (MG C.N scope)=true:=by rw [ok.N,ok.sc];exact hin
     rw [ep] at f2 f3 ⊢;simp only at f2 f3 ⊢;cases ifs with
     | nil =>
      cases f1a;have hc:∀ cl a s H fp,UI (X.inner scope cl a s H fp) [] (tT X.K (t.Γ p.1) (t.Γ p.1) [] DX):=fun cl a s H fp=>Ri
      have base:=Km (pos:=pos) hin' ok.calm hi hg hgo hc he hs;cases hJ:Aq p.1 (t.J++([]++ce.js)) with
      | nil=>exact PE.imp base fun σ H Q h=>Ks ht hw.1 f3 f2 hsx hJ.symm h
      | cons j J=>exact PE.imp base fun σ H Q h=>IS ht hw.1 f3 f2 hsx hJ.symm h
     | cons i1 ifs =>
      cases ifs with
      | nil =>
       have hc:∀ cl a s H fp,UI (X.inner scope cl a s H fp) [i1] (tT X.K (t.Γ p.1) ct.Γ ct.js ct.f):=fun cl a s H fp=>.one (R.T (okI cl a s H fp) f1a)
       have base:=Km (pos:=pos) hin' ok.calm hi hg hgo hc he hs;cases hJ:Aq p.1 (t.J++(ct.js++ce.js)) with
       | nil=>exact PE.imp base fun σ H Q h=>Ku ht hw.1 f3 f2 hsx hJ.symm h
       | cons j J=>exact PE.imp base fun σ H Q h=>IR ht hw.1 f3 f2 hsx hJ.symm h
      | cons _ _=>cases f1a
    ·cases f1
   ·cases h
  ·cases h
 ·cases h
end R
namespace Q
open PySem L2
section
end
noncomputable def enumD (k:Nat):List Dt->List Dt
 | []=>[]
 | d::ds=>.tup [.int k,d]::enumD (k+1) ds
theorem enumD_len:∀ (ds:List Dt) (k:Nat),(enumD k ds).length=ds.length
 | [],k=>rfl
 | d::ds,k=>by simp [enumD,enumD_len ds (k+1)]
section
end
section
end
section
end
section
end
section
end
noncomputable def zipD2:List Dt->List Dt->List Dt
 | x1::xs1,x2::xs2=>.tup [x1,x2]::zipD2 xs1 xs2
 | _,_=>[]
section
end
noncomputable def zipD3:List Dt->List Dt->List Dt->List Dt
 | x1::xs1,x2::xs2,x3::xs3=>.tup [x1,x2,x3]::zipD3 xs1 xs2 xs3
 | _,_,_=>[]
section
end
section
end
section
end
section
end
section
end
section
end
section
end
section
end
end Q
namespace HT
open PySem PyProof.Rows
section
variable {prog:Program} {w:World} {A:Around} {E:Value->Shared->Prop} {s:Shared}
theorem LC {α β:Type} {f g:α->Option β}:∀ {l:List α},(∀ a∈l,f a=g a)->l.filterMap f=l.filterMap g
 | [],_=>rfl
 | a::l,h=>by
  rw [List.filterMap_cons,List.filterMap_cons,h a List.mem_cons_self,LC fun b hb=>h b (List.mem_cons_of_mem _ hb)]
theorem Lc (n:Nat):Builtin.Slice.sliceAdjust none none (-1) (n:Int)=((n:Int) - 1,-1):=by
 unfold Builtin.Slice.sliceAdjust;rfl
theorem Kl (n:Nat):Builtin.Slice.slicePlaces ((n:Int) - 1) (-1) (-1)=n:=by
 unfold Builtin.Slice.slicePlaces;have h1:¬ ((-1:Int) > 0):=by omega
 simp only [h1,if_false];have h2:(-(-1:Int))=1:=by decide
 simp only [h2,Int.ediv_one];split<;>omega
theorem Oc (xs:Array Value):((List.range xs.size).filterMap fun (m:Nat)=>xs[((xs.size:Int) - 1+(m:Int) * (-1)).toNat]?).toArray=xs.toList.reverse.toArray:=by
 have e:(List.range xs.size).filterMap (fun (m:Nat)=>xs[((xs.size:Int) - 1+(m:Int) * (-1)).toNat]?)=((List.range xs.size).map fun k=>xs.size - 1 - k).filterMap (xs[·]?):=by
  rw [List.filterMap_map];refine LC fun m hm=>?_
  have hm:=List.mem_range.mp hm;have:((xs.size:Int) - 1+(m:Int) * (-1)).toNat=xs.size - 1 - m:=by omega
  show _=xs[xs.size - 1 - m]?;rw [this]
 rw [e,W.krv_range,List.filterMap_reverse,W.krv_all]
theorem getItem_tuple_back {t sl:Addr} {items:Array Value} {k:Tok} {Q:Value->Shared->Prop} (ht:IsTup s.heap t items) (hs:s.heap.IsSliceOf sl .none .none (.int (-1) k))
    (h:Q (.ref s.heap.objs.size) { s with heap:=s.heap.push { cls:=.type "tuple", data:=.seq items.toList.reverse.toArray } })
    (hsz:items.size<=sizeLine):wpAny (model prog w) A (getItem (.ref t) (.ref sl)) Q E s:=by
  have htake:sizeOk (.seq items.toList.reverse.toArray):=by
    show items.toList.reverse.toArray.size<=sizeLine;rw [List.size_toArray,List.length_reverse,Array.length_toList];exact hsz
  obtain ⟨os,hos,hcs,hds⟩:=id hs
  have hTs:s.TypeIs (.ref sl) "slice" := ⟨os,hos,hcs⟩
  unfold getItem
  try with_reducible refine wpAny_holding ?_
  first | refine wpAny_bind (wpAny_pure ?_) | skip
  refine wpAny_bind (wpAny_sequenceKey ht.typeIs (by decide) ?_)
  refine wpAny_bind (wpAny_callSpecial?_slot (name:=Str.ofString "__getitem__") ht.typeIs PyProof.Rows.slot_tuple_getitem
    (wpAny_call_entry PyProof.Rows.slot_tuple_getitem ht.typeIs entry_tuple_getitem ?_ (args_tuple_getitem _ _)))
  show wpAny _ _ (Builtin.Tuple.tupleItemsOf (.ref t) >>= _) _ _ s;refine wpAny_bind (tupleItemsOf_ ht ?_);refine wpAny_bind (wpAny_typeOf hTs ?_);rw [if_pos (by decide)];have ap:∀ {A':Around} {Q:Int×Int×Nat->Shared->Prop},Q ((items.size:Int) - 1,-1,items.size) s->wpAny (model prog w) A' (Builtin.Slice.sliceApplied (.ref sl) (pure (items.size:Int))) Q E s:=fun {A' Q} h=>by
    unfold Builtin.Slice.sliceApplied Builtin.Slice.sliceFields;refine wpAny_bind (wpAny_bind (wpAny_field hos hds (x:=.none) rfl (wpAny_bind (wpAny_field hos hds (x:=.none) rfl (wpAny_bind (wpAny_field hos hds (x:=.int (-1) k) rfl (wpAny_pure ?_)))))));refine wpAny_bind (EB (.int (-1) k) ?_);show wpAny _ _ (if ((-1:Int) == 0)=true then _ else _) _ _ s;rw [if_neg (by decide)];refine wpAny_bind (slicePart_none (wpAny_bind (slicePart_none (wpAny_bind (wpAny_pure ?_)))));show wpAny _ _ (match Builtin.Slice.sliceAdjust none none (-1) (items.size:Int) with | (lo,hi)=>pure (lo,(-1:Int),Builtin.Slice.slicePlaces lo hi (-1))) _ _ s;rw [Lc];show wpAny _ _ (pure (((items.size:Int) - 1),(-1:Int),Builtin.Slice.slicePlaces ((items.size:Int) - 1) (-1) (-1))) _ _ s;rw [Kl];exact wpAny_pure h
  refine wpAny_bind (ap ?_);have hno:¬ ((((items.size:Int) - 1) == 0 && (-1:Int) == 1 && items.size == items.size)=true):=by
    intro q;rw [Bool.and_eq_true,Bool.and_eq_true] at q;exact absurd q.1.2 (by decide)
  show wpAny _ _ (if (((items.size:Int) - 1) == 0 && (-1:Int) == 1 && items.size == items.size)=true then _ else _) _ _ s;rw [if_neg hno,Oc]
  first
    | exact wpAny_bind (m:=Builtin.Tuple.tupleExact _) (wpAny_newObj_type (wpAny_pure ⟨_,rfl,wpAny_pure h⟩) htake)
    | exact wpAny_bind (m:=Builtin.Tuple.tupleExact _) (wpAny_newObj_type (wpAny_bind (wpAny_pure (wpAny_pure ⟨_,rfl,wpAny_pure h⟩))) htake)
    | exact wpAny_bind (wpAny_bind (m:=Builtin.Tuple.tupleExact _) (wpAny_newObj_type (wpAny_pure (wpAny_pure ⟨_,rfl,wpAny_pure h⟩)) htake))
    | exact wpAny_bind (wpAny_bind (m:=Builtin.Tuple.tupleExact _) (wpAny_newObj_type (wpAny_pure ⟨_,rfl,wpAny_pure h⟩) htake))
end
end HT
namespace L2
open PySem PySem.Spec PyProof.Rows
section
variable {X:Cx} {e st:Expr} {te ts:TE} {pos p2:Pos}
abbrev bq (K:W.Frag) (te ts:TE):TE:=fun σ H Q=>te σ H fun x H1=>ts σ H1 fun y H2=>∃ a xs b,x=.ref a/\y=.int (-1)/\DK K H2 a xs b/\∀ p,H2 p=none->Q (.ref p) (upd H2 p (bif b then .tup xs.reverse else .lst xs.reverse))
theorem VQ (K:W.Frag) (he:PE X e te) (hst:PE X st ts) (hK:X.K=K:=by rfl) (hsub:∀ o i,∃ ops,subscripted (.Slice none none (some st) p2) false o i=operate ops (getItem o i):=by intro o i;exact ⟨_,by with_unfolding_all rfl⟩):PE X (.Subscript e (.Slice none none (some st) p2) pos) (bq K te ts):=by
 subst hK;intro pins s σ H Q I h;refine Subscript_ (AZ (he pins s σ H _ I h) fun v s1 ⟨x,H1,I1,r1,q1⟩=>?_);refine wpAny_Slice ?_;rw [evalPart_none];refine wpAny_pure ?_;refine wpAny_pure ?_;rw [evalPart_some];refine AZ (hst pins s1 σ H1 _ I1 q1) fun vs s3 ⟨y,H3,I3,r3,q3⟩=>?_
 obtain ⟨a,xs,b,rfl,rfl,hx,q⟩:=q3;cases r1;obtain ⟨t,rfl⟩:=r3
 have I4:Inv X pins σ H3 { s3 with heap:=s3.heap.push { cls:=.type "slice", data:=.fields #[.none,.none,.int (-1) t] } }:=I3.kept (t':=s3.toks) fun b ob q=>Heap.get?_push_of_some _ q
 show wpAny (model X.prog X.w) X.A (subscriptTail e (.Slice none none (some st) p2) (.ref a) (.ref s3.heap.objs.size)) (EP X pins σ Q) X.xe { s3 with heap:=s3.heap.push { cls:=.type "slice", data:=.fields #[.none,.none,.int (-1) t] } }
 obtain ⟨ops,hops⟩:=hsub (.ref a) (.ref s3.heap.objs.size);cases b with
 | false =>
  obtain ⟨its,r,ht,hz⟩:=I4.list hx;have hlen:=r.length;refine tail_any (ops:=ops) ht.isList.typeIs slot_list_getitem.lookup ?_ hops;refine wpAny_getItem_list_slice ht.isList (Heap.IsSliceOf.new ..) .none .none (.int (-1) t) (by decide) ?_ (by rw [List.size_toArray];omega);rw [W.krv_pick];rw [show its.toArray.toList.reverse=its.reverse by simp]
  have I5:=I4.laid (t':=s3.toks) (o:=.lst xs.reverse) (h':=(s3.heap.push { cls:=.type "slice", data:=.fields #[.none,.none,.int (-1) t] }).push { cls:=.type "list", data:=.seq its.reverse.toArray }) (fun b ob q=>Heap.get?_push_of_some _ q) (Nat.le_refl _) ⟨by rw [List.length_reverse];exact hz,its.reverse,0,EN r,Heap.get?_push_size _ rfl⟩
  exact ⟨.ref _,_,I5,rfl,q _ (I4.hok.fresh (Nat.le_refl _))⟩
 | true =>
  obtain ⟨its,r,ht,hz⟩:=I4.tuple hx;have hlen:=r.length;refine tail_any (ops:=ops) ht.typeIs PyProof.Rows.slot_tuple_getitem.lookup ?_ hops;refine HT.getItem_tuple_back ht (Heap.IsSliceOf.new ..) ?_ (by rw [List.size_toArray];omega);rw [show its.toArray.toList.reverse=its.reverse by simp]
  have I5:=I4.laid (t':=s3.toks) (o:=.tup xs.reverse) (h':=(s3.heap.push { cls:=.type "slice", data:=.fields #[.none,.none,.int (-1) t] }).push { cls:=.type "tuple", data:=.seq its.reverse.toArray }) (fun b ob q=>Heap.get?_push_of_some _ q) (Nat.le_refl _) ⟨by rw [List.length_reverse];exact hz,its.reverse,EN r,Fh.new _ _⟩
  exact ⟨.ref _,_,I5,rfl,q _ (I4.hok.fresh (Nat.le_refl _))⟩
end
end L2
namespace Q
open PySem L2
section
end
end Q
namespace R
open PySem L2
noncomputable def Zt (f:Expr) (es:List Expr):Option (List Expr):=match f,es with
 | .Name x _,[.Call (.Name y _) (a::es) [] _]=>if x == ("list" : Str) && y == ("range" : Str) then some (a::es) else none
 | _,_=>none
theorem Ov {f:Expr} {es as:List Expr} (h:Zt f es=some as):∃ p a es' p2 pos2,f=.Name "list" p/\as=a::es'/\es=[.Call (.Name "range" p2) (a::es') [] pos2]:=by
 unfold Zt at h;split at h
 ·split at h
  ·rename_i e;rw [Bool.and_eq_true,beq_iff_eq,beq_iff_eq] at e;obtain ⟨rfl,rfl⟩:=e;cases h;exact ⟨_,_,_,_,_,rfl,rfl,rfl⟩
  ·cases h
 ·cases h
def iN (r:Rec) (C:Cf) (Γ:Gm) (as:List Expr):Option CE:=if JP C.sc "list" && JP C.sc "range" && C.bl.contains "list" && C.bl.contains "range" then (r.A C Γ (List.replicate as.length true) as).bind fun c=>some ⟨1,c.Γ,c.js,DY C.T.lr (AQ c.as)⟩ else none
noncomputable def Zs (f:Expr) (es:List Expr):Option Expr:=match f,es with
 | .Name x _,[.Call (.Name y _) [a] [] _]=>if x == ("list" : Str) && y == ("reversed" : Str) then some a else none
 | _,_=>none
theorem Ou {f a:Expr} {es:List Expr} (h:Zs f es=some a):∃ p p2 pos2,f=.Name "list" p/\es=[.Call (.Name "reversed" p2) [a] [] pos2]:=by
 unfold Zs at h;split at h
 ·split at h
  ·rename_i e;rw [Bool.and_eq_true,beq_iff_eq,beq_iff_eq] at e;obtain ⟨rfl,rfl⟩:=e;cases h;exact ⟨_,_,_,rfl,rfl⟩
  ·cases h
 ·cases h
def gg (r:Rec) (C:Cf) (Γ:Gm) (a:Expr):Option CE:=if JP C.sc "list" && JP C.sc "reversed" && C.bl.contains "list" && C.bl.contains "reversed" && Ae a then (Pj r C Γ a).bind fun x=>some ⟨1,x.Γ,x.js++[],DY (one C.T.lv) (AQ [x.a])⟩ else none
theorem ak {r:Rec} (R:OkR r) {C:Cf} {X:Cx} {Γ:Gm} {a:Expr} {p p2 pos2 pos:Pos} {c:CE} (ok:Cok C X) (h:gg r C Γ a=some c):PE X (.Call (.Name "list" p) [.Call (.Name "reversed" p2) [a] [] pos2] [] pos) (tE X.K Γ c.o c.Γ c.js c.f):=by
 unfold gg at h;split at h
 ·rename_i hg;simp only [Bool.and_eq_true] at hg;obtain ⟨⟨⟨⟨g1,g2⟩,g3⟩,g4⟩,g5⟩:=hg;obtain ⟨x,e1,h⟩:=bind_some' h;cases h;obtain ⟨a1,a2⟩:=Fy R ok e1;exact PE.imp (MF ok.calm (Bw ok g1) (ok.bl _ (List.contains_iff_mem.mp g3)) (Bw ok g2) (ok.bl _ (List.contains_iff_mem.mp g4)) a1 rfl rfl (AF g5) rfl) fun _ _ _ h=>Bm (C.T.lvok X ok.gx) a2 h
 ·cases h
def Mn (r:Rec) (C:Cf) (Γ:Gm) (f:Expr) (es:List Expr) (pos:Pos):Option CE:=match Zt f es with
 | some as=>iN r C Γ as
 | none=>match Zs f es with
  | some a=>gg r C Γ a
  | none=>Ny r C Γ f es pos
theorem Pf {r:Rec} (R:OkR r) {C:Cf} {X:Cx} {Γ:Gm} {f:Expr} {es:List Expr} {pos:Pos} {c:CE} (ok:Cok C X) (h:Mn r C Γ f es pos=some c):PE X (.Call f es [] pos) (tE X.K Γ c.o c.Γ c.js c.f):=by
 unfold Mn at h;split at h
 ·rename_i as e;obtain ⟨p,a,es',p2,pos2,rfl,rfl,rfl⟩:=Ov e;unfold iN at h;split at h
  ·rename_i hg;simp only [Bool.and_eq_true] at hg;obtain ⟨⟨⟨g1,g2⟩,g3⟩,g4⟩:=hg;obtain ⟨c1,e1,h⟩:=bind_some' h;cases h;obtain ⟨a1,a2,a3,a4,_⟩:=R.A ok e1;rw [List.all_cons,Bool.and_eq_true] at a4;exact PE.imp (ME ok.calm (Bw ok g1) (ok.bl _ (List.contains_iff_mem.mp g3)) (Bw ok g2) (ok.bl _ (List.contains_iff_mem.mp g4)) a1 rfl rfl (AF a4.1) (BG a4.2)) fun _ _ _ h=>Bm (C.T.lrok X ok.gx) a2 h
  ·cases h
 ·split at h
  ·rename_i a e;obtain ⟨p,p2,pos2,rfl,rfl⟩:=Ou e;exact ak R ok h
  ·exact TN R ok h
noncomputable def dc:Expr->Bool
 | .UnaryOp .USub (.Constant (.int 1) _ _) _=>true
 | _=>false
def af (r:Rec) (C:Cf) (Γ:Gm) (a st:Expr):Option CE:=if dc st then (Ie r C Γ a st).bind fun p=>some ⟨1,p.2.Γ,jj p,DY (two C.T.rv) (AQ [p.1.a,p.2.a])⟩ else none
theorem WY {r:Rec} (R:OkR r) {C:Cf} {X:Cx} {Γ:Gm} {a st:Expr} {p2 pos:Pos} {c:CE} (ok:Cok C X) (h:af r C Γ a st=some c):PE X (.Subscript a (.Slice none none (some st) p2) pos) (tE X.K Γ c.o c.Γ c.js c.f):=by
 unfold af at h;split at h
 ·rename_i hm;obtain ⟨p,e1,h⟩:=bind_some' h;cases h;obtain ⟨h1,h2,h3⟩:=El R ok e1;unfold dc at hm;split at hm
  ·exact PE.imp (VQ X.K h1 h2 rfl (by intro o i;exact ⟨_,by with_unfolding_all rfl⟩)) fun _ _ _ h=>Bm (C.T.rvok X ok.gx) h3 h
  ·cases hm
 ·cases h
def Hv (r:Rec) (C:Cf) (Γ:Gm) (e:Expr):Option CE:=match e with
 | .Constant k _ _=>TK Γ k
 | .Name x _=>TJ C Γ x
 | .BinOp a op b _=>eZ r C Γ a op b
 | .UnaryOp .USub a _=>eU r C Γ a
 | .UnaryOp .Not a _=>eT r C Γ a
 | .Compare a [op] [b] _=>(TL r C Γ a op b).map iP
 | .Compare a [op,op'] [b,c] _=>(TM r C Γ a op b op' c).map iP
 | .BoolOp op vs pos=>Qf r C Γ op vs pos
 | .IfExp c a b _=>eX r C Γ c a b
 | .Call f es [] pos=>Mn r C Γ f es pos
 | .Tuple es _ _=>eR r C Γ es
 | .List es _=>eW r C Γ es
 | .Subscript a (.Slice lo hi none _) _=>iM r C Γ a lo hi
 | .Subscript a (.Slice none none (some st) _) _=>af r C Γ a st
 | .Subscript a b _=>if Gg b then gh r C Γ a b else none
 | .ListComp e gens sc _=>IU r C Γ e gens sc
 | _=>none
theorem Qd {r:Rec} (R:OkR r) {C:Cf} {X:Cx} {Γ:Gm} {e:Expr} {c:CE} (ok:Cok C X) (h:Hv r C Γ e=some c):PE X e (tE X.K Γ c.o c.Γ c.js c.f):=by
 match e,h with
 | .Constant k j pos,h=>exact Pd h
 | .Name x pos,h=>exact TH ok h
 | .BinOp a op b pos,h=>exact Wm R ok h
 | .UnaryOp op a pos,h =>
  cases op with
  | USub=>exact Wc R ok h
  | Not =>
   obtain ⟨c1,e1,h⟩:=bind_some' (show (r.E C Γ a).bind _=some c from h);cases h;exact PE.imp (ZT (DT (R.E ok e1))) fun _ _ _ h=>YT h
  | _=>cases h
 | .Compare a ops bs pos,h =>
  match ops,bs,h with
  | [op],[b],h =>
   cases q:TL r C Γ a op b with
   | none=>simp only [Hv,q] at h;cases h
   | some t =>
    simp only [Hv,q] at h;cases h;exact (Nw R ok q).2 1
  | [op,op'],[b,d],h =>
   cases q:TM r C Γ a op b op' d with
   | none=>simp only [Hv,q] at h;cases h
   | some t =>
    simp only [Hv,q] at h;cases h;exact (Nx R ok q).2 1
  | [],_,h=>cases h
  | [_],[],h=>cases h
  | [_],_::_::_,h=>cases h
  | [_,_],[],h=>cases h
  | [_,_],[_],h=>cases h
  | [_,_],_::_::_::_,h=>cases h
  | _::_::_::_,_,h=>cases h
 | .BoolOp op vs pos,h=>exact OP R ok h
 | .IfExp c a b pos,h=>exact Wf R ok h
 | .Call f es ks pos,h =>
  cases ks with
  | nil=>exact Pf R ok h
  | cons _ _=>cases h
 | .Tuple es k pos,h=>exact WW R ok h
 | .List es pos,h=>exact We R ok h
 | .Subscript a b pos,h =>
  have ix:Gg b=true->(if Gg b then gh r C Γ a b else none)=some c->PE X (.Subscript a b pos) (tE X.K Γ c.o c.Γ c.js c.f):=fun hb h=>by
   rw [if_pos hb] at h;exact ao R ok hb h
  match b,h with
  | .Slice lo hi st p2,h =>
   cases st with
   | none=>exact ab R ok h
   | some st =>
    cases lo with
    | none =>
     cases hi with
     | none=>exact WY R ok h
     | some _=>cases h
    | some _=>cases h
  | .NamedExpr ..,h | .BinOp ..,h | .Lambda ..,h | .Dict ..,h | .Set ..,h | .ListComp ..,h | .SetComp ..,h | .DictComp ..,h | .GeneratorExp ..,h | .Await ..,h | .Yield ..,h | .YieldFrom ..,h | .Call ..,h | .FormattedValue ..,h | .JoinedStr ..,h | .Constant ..,h | .Attribute ..,h | .Subscript ..,h | .Starred ..,h | .Name ..,h | .List ..,h | .Tuple ..,h | .UnaryOp ..,h | .BoolOp ..,h | .IfExp ..,h | .Compare ..,h=>exact ix rfl h
 | .ListComp e gens sc pos,h=>exact LU R ok h
 | .NamedExpr ..,h | .Lambda ..,h | .Dict ..,h | .Set ..,h | .SetComp ..,h | .DictComp ..,h | .GeneratorExp ..,h | .Await ..,h | .Yield ..,h | .YieldFrom ..,h | .FormattedValue ..,h | .JoinedStr ..,h | .Attribute ..,h | .Starred ..,h | .Slice ..,h=>cases h
noncomputable def Ol:Expr->Bool
 | .ListComp ..=>false
 | .SetComp ..=>false
 | .DictComp ..=>false
 | _=>true
theorem GH {e:Expr} {t:Option Expr} {l:Nat} {env:Env} (h:Ol e=true):swapsWith e t l env=pure false:=by
 cases e<;>first | rfl | (cases h)
theorem QE {K:W.Frag} {Γ Γ' Γ2:Gm} {js:List Nat} {o:Nat} {f:Ev Dv} {σ:St} {H:Hp} {Q:VK} (hw:BQ Γ2 Γ'=true) (h:tE K Γ o Γ2 js f σ H Q):tE K Γ o Γ' js f σ H Q:=by
 obtain ⟨g,m,P,r,R,k,res,e,q⟩:=h;refine ⟨g,m,P,r,R,k,res,e,fun b m' g' P' Pv v H' hk ag s rv r1 n=>?_⟩;obtain ⟨g2,P2,s2,r2⟩:=r1.weaken hw;have nn:Disj Pv P':=fun a q z=>n a z q
 refine q b m' g2 P2 Pv v H' hk ag (s.trans ((s2.frame (R:=Pv)).sub (fun _ z=>z) fun _ z=>z)) (rv.held s2 r1.fpOk nn) r2 fun a q z=>s2.out rv.fpOk nn a z q
def Qp (Γ:Gm):CS:=⟨some Γ,[],HA,false,false,false⟩
def eS (r:Rec) (C:Cf) (Γ:Gm) (e:Expr):Option CS:=(match Vk C e with
 | some i=>(match Γ.getD i none with | some o=>some (CE.mk o (Γ.set i none) [] (Nj i)) | none=>none)
 | none=>r.E C Γ e).bind fun c=>if BQ C.F.Γr c.Γ && (C.F.ro == 0 || c.o == C.F.ro) then some ⟨none,c.js,Xo c.f,true,false,false⟩ else none
theorem WZ {r:Rec} (R:OkR r) {C:Cf} {X:Cx} {Γl:Option Gm} {Γ:Gm} {e:Expr} {pos:Pos} {c:CS} (ok:Cok C X) (h:eS r C Γ e=some c):PS X (.Return (some e) pos) (tS X.K C.F Γl Γ c.Γ c.js c.f):=by
  obtain ⟨c1,e1,h⟩:=bind_some' h;split at h
  · rename_i hw;simp only [Bool.and_eq_true,Bool.or_eq_true,beq_iff_eq] at hw;cases h;have he:PE X e (tE X.K Γ c1.o c1.Γ c1.js c1.f):=by
      split at e1
      · rename_i i hi;split at e1
        · rename_i o ho;cases e1;exact cU (EE ok hi) (Bg ho)
        · cases e1
      · exact R.E ok e1
    have he2:PE X e (tE X.K Γ C.F.ro c1.Γ c1.js c1.f):=by
      rcases hw.2 with z | z
      · rw [z];exact DT he
      · rw [<- z];exact he
    exact cJ (PE.imp he2 fun _ _ _ h=>QE hw.1 h)
  · cases h
def au (r:Rec) (C:Cf) (Γ:Gm) (e:Expr):Option CS:=if Ol e then (r.E C Γ e).bind fun c=>some ⟨some c.Γ,c.js,SY c.f,false,false,false⟩ else none
theorem Wh {r:Rec} (R:OkR r) {C:Cf} {X:Cx} {Γl:Option Gm} {Γ:Gm} {e:Expr} {pos:Pos} {c:CS} (ok:Cok C X) (h:au r C Γ e=some c):PS X (.Expr e pos) (tS X.K C.F Γl Γ c.Γ c.js c.f):=by
 unfold au at h;split at h
 ·rename_i hn;obtain ⟨c1,e1,h⟩:=bind_some' h;cases h;exact Yj (R.E ok e1) (GH hn)
 ·cases h
def Sw (C:Cf) (x:Str) (c:CE):Option CS:=(Ju C x).bind fun i=>if decide (i < c.Γ.length) && !C.F.io.contains i then some ⟨some (c.Γ.set i (some c.o)),c.js++[i],IM c.f (bo i),false,false,false⟩ else none
theorem LS {C:Cf} {X:Cx} {Γl:Option Gm} {Γ:Gm} {x:Str} {e:Expr} {pos pos':Pos} {c1:CE} {c:CS} (ok:Cok C X) (he:PE X e (tE X.K Γ c1.o c1.Γ c1.js c1.f)) (hs:swapsWith e (some (.Name x pos')) pos.line X.env=pure false) (h:Sw C x c1=some c):PS X (.Assign [.Name x pos'] e pos) (tS X.K C.F Γl Γ c.Γ c.js c.f):=by
 obtain ⟨i,e1,h⟩:=bind_some' h;split at h
 ·rename_i hw;simp only [Bool.and_eq_true,decide_eq_true_eq,Bool.not_eq_true'] at hw;cases h;obtain ⟨h1,h2,h3⟩:=Fw ok e1;exact cI ok.nd h1 h2 (fun z=>by rw [List.contains_iff_mem.mpr z] at hw;cases hw.2) hw.1 he hs h3
 ·cases h
def gK (sc:Scope) (x:Str) (pl:Nat) (scope:Scope) (vl:Nat):Bool:=(if sc.kind.isAnnotationScope then ScopeKind.function else sc.kind) == .function && sc.names.lookup x == some .local && pl == vl && !(scope.names.any fun (n,k)=>n == x && (k == .local || k == .cell))
theorem QW {X:Cx} {C:Cf} (ok:Cok C X) {x:Str} {pos':Pos} {elt:Expr} {gens:List Comprehension} {scope:Scope} {pos:Pos} {l:Nat}:swapsWith (.ListComp elt gens scope pos) (some (.Name x pos')) l X.env=pure (gK C.sc x pos'.line scope pos.line):=by
 unfold gK;rw [<- ok.sc];rfl
theorem Pe {r:Rec} (R:OkR r) {C:Cf} {X:Cx} {Γ:Gm} {elt:Expr} {gens:List Comprehension} {scope:Scope} {pos:Pos} {c:CE} (ok:Cok C X) (h:IU r C Γ elt gens scope=some c) :
    ∃ t:TE,(∀ σ H Q,tE X.K Γ c.o c.Γ c.js c.f σ H Q->t σ H Q)/\∀ {i x pos' spos},X.N[i]?=some x->Loc X.env.scope x->(X.fn x=true\/X.env.scope.names.lookup x=some .local)->swapsWith (.ListComp elt gens scope pos) (some (.Name x pos')) spos.line X.env=pure true->PS X (.Assign [.Name x pos'] (.ListComp elt gens scope pos) spos) (Lq t (DW i)):=by
  unfold IU at h;split at h
  · rename_i tg iter ifs;obtain ⟨s,e1,h⟩:=bind_some' h;simp only at h;split at h
    · rename_i hin;obtain ⟨t,e2,h⟩:=bind_some' h;obtain ⟨p,e3,h⟩:=bind_some' h;split at h
      · rename_i hw;rw [Bool.and_eq_true] at hw;cases h;obtain ⟨f1,f2,f3⟩:=JV e3;unfold KJ at f1;split at f1
        · rename_i hj;obtain ⟨ct,f1a,f1⟩:=bind_some' f1;obtain ⟨ce,f1b,f1⟩:=bind_some' f1;have ep:p.2=⟨t,ct,ce⟩:=(Option.some.inj f1).symm;have hs:∀ x,foldedSetIterable iter X.env x=pure x:=fun x=>by cases iter<;>first | rfl | (cases e1)
          have hI:r.I C Γ (LA tg) iter=some s:=by cases iter<;>first | exact e1 | (cases e1)
          have hi:=R.I tg ok hI;have okI:=fun cl a s H fp=>ok.inner scope cl a s H fp
          have hg:∀ cl a s H fp,PG (X.inner scope cl a s H fp) tg (t.g X.K):=fun cl a s H fp=>(FZ (okI cl a s H fp) e2).1
          have hsx:∀ i∈t.J,i∈MG C.N scope:=fun i hi=>List.contains_iff_mem.mp ((List.all_eq_true.mp hw.2) i hi)
          have hgo:QA (MG C.N scope) (t.g X.K):=(FZ (okI [] 0 X.s₀ X.H₀ []) e2).2.1 _ hsx;have ht:Mt X.K p.1 (t.Γ p.1) t.J (t.g X.K) t.f:=(FZ (okI [] 0 X.s₀ X.H₀ []) e2).2.2 hj;have he:∀ cl a s H fp,PE (X.inner scope cl a s H fp) elt (tE X.K ct.Γ 0 ce.Γ ce.js ce.f):=fun cl a s H fp=>DT (R.E (okI cl a s H fp) f1b)
          have hin':innerOk X.N X.env.scope scope (MG C.N scope)=true:=by rw [ok.N,ok.sc];exact hin
          rw [ep] at f2 f3 ⊢;simp only at f2 f3 ⊢;cases ifs with
          | nil =>
            cases f1a;have hc:∀ cl a s H fp,UI (X.inner scope cl a s H fp) [] (tT X.K (t.Γ p.1) (t.Γ p.1) [] DX):=fun cl a s H fp=>Ri
            refine ⟨_,?_,fun {i x pos' spos} hix hx hf hsw=>Ki ok.nd hix hx hin' ok.calm hi hg hgo hc he hsw hs hf⟩;intro σ H Q h;cases hJ:Aq p.1 (t.J++([]++ce.js)) with
            | nil=>rw [hJ] at h;exact Ks ht hw.1 f3 f2 hsx hJ.symm h
            | cons j J=>rw [hJ] at h;exact IS ht hw.1 f3 f2 hsx hJ.symm h
          | cons i1 ifs =>
            cases ifs with
            | nil =>
              have hc:∀ cl a s H fp,UI (X.inner scope cl a s H fp) [i1] (tT X.K (t.Γ p.1) ct.Γ ct.js ct.f):=fun cl a s H fp=>.one (R.T (okI cl a s H fp) f1a)
              refine ⟨_,?_,fun {i x pos' spos} hix hx hf hsw=>Ki ok.nd hix hx hin' ok.calm hi hg hgo hc he hsw hs hf⟩;intro σ H Q h;cases hJ:Aq p.1 (t.J++(ct.js++ce.js)) with
              | nil=>rw [hJ] at h;exact Ku ht hw.1 f3 f2 hsx hJ.symm h
              | cons j J=>rw [hJ] at h;exact IR ht hw.1 f3 f2 hsx hJ.symm h
            | cons _ _=>cases f1a
        · cases f1
      · cases h
    · cases h
  · cases h
def Xy (r:Rec) (C:Cf) (Γ:Gm) (x:Str) (elt:Expr) (gens:List Comprehension) (scope:Scope):Option CS:=(IU r C Γ elt gens scope).bind fun c=>Sw C x c
theorem TV {r:Rec} (R:OkR r) {C:Cf} {X:Cx} {Γl:Option Gm} {Γ:Gm} {x:Str} {elt:Expr} {gens:List Comprehension} {scope:Scope} {pos' cpos pos:Pos} {c:CS} (ok:Cok C X) (h:Xy r C Γ x elt gens scope=some c):PS X (.Assign [.Name x pos'] (.ListComp elt gens scope cpos) pos) (tS X.K C.F Γl Γ c.Γ c.js c.f):=by
 obtain ⟨c1,e1,h⟩:=bind_some' h;cases hb:gK C.sc x pos'.line scope cpos.line with
 | false=>exact LS ok (LU R ok e1) (by rw [QW ok,hb]) h
 | true =>
  obtain ⟨i,e2,h⟩:=bind_some' h;split at h
  ·rename_i hw;simp only [Bool.and_eq_true,decide_eq_true_eq,Bool.not_eq_true'] at hw;cases h;obtain ⟨h1,h2,h3⟩:=Fw ok e2;obtain ⟨t,q1,q2⟩:=Pe R (pos:=cpos) ok e1;refine PS.imp (q2 h1 h2 h3 (by rw [QW ok,hb])) fun D σ H h=>q1 _ _ _ (NM hw.1 (fun z=>by rw [List.contains_iff_mem.mpr z] at hw;cases hw.2) h)
  ·cases h
noncomputable def dW:Expr->Bool
 | .Tuple ..=>false
 | _=>true
theorem ON {tg e:Expr} {env:Env} (h:dW e=true):swappedStores [tg] e env=pure none:=by
 cases e<;>first | (cases h;done) | (cases tg<;>rfl)
theorem NL {tg e:Expr} {l:Nat} {env:Env} (h:Ol e=true):swapsWithSole [tg] e l env=pure false:=GH h
def TU (r:Rec) (C:Cf) (Γ:Gm) (es:List Expr) (k:Nat) (p:Pos) (e:Expr):Option CS:=if dW e && Ol e then (r.E C Γ e).bind fun c=>(cG C (.Tuple es k p)).bind fun t=>if t.J.all (fun i=>decide (i < c.Γ.length) && !C.F.io.contains i) then some ⟨some (t.Γ c.Γ),c.js++t.J,IM c.f t.f,false,false,false⟩ else none else none
theorem TR {r:Rec} (R:OkR r) {C:Cf} {X:Cx} {Γl:Option Gm} {Γ:Gm} {es:List Expr} {k:Nat} {p pos:Pos} {e:Expr} {c:CS} (ok:Cok C X) (h:TU r C Γ es k p e=some c):PS X (.Assign [.Tuple es k p] e pos) (tS X.K C.F Γl Γ c.Γ c.js c.f):=by
 unfold TU at h;split at h
 ·rename_i hn;rw [Bool.and_eq_true] at hn;obtain ⟨c1,e1,h⟩:=bind_some' h;obtain ⟨t,e2,h⟩:=bind_some' h;split at h
  ·rename_i hw;cases h;obtain ⟨g1,_,g3⟩:=FZ ok e2;rw [List.all_eq_true] at hw;refine cP (DT (R.E ok e1)) g1 (g3 (by rw [List.all_eq_true];exact fun i hi=>(Bool.and_eq_true_iff.mp (hw i hi)).1)) (fun i hi z=>?_) (NL hn.2) (ON hn.1) rfl;have:=(Bool.and_eq_true_iff.mp (hw i z)).2;rw [List.contains_iff_mem.mpr hi] at this;cases this
  ·cases h
 ·cases h
def eH (i j:Nat) (fa:Ev (List Dv)):Es:=fun R m k=>fa R m fun ds m1=>match ds with | [a,b]=>k.nx ((m1.set i a).set j b) | _=>none
def ZZ (sc:Scope) (x y:Str) (px py:Pos) (a b:Expr):Bool:=(match sc.kind with | .function=>true | _=>false) && (match sc.names.lookup x with | some .local=>true | _=>false) && (match sc.names.lookup y with | some .local=>true | _=>false) && !(x == y) && (py.line == px.line) && Ae a && Ae b && !(foldedForSure 8 a && foldedForSure 8 b) && !(constantsAlone 8 a && constantsAlone 8 b)
theorem ZY {env:Env} {x y:Str} {px py pt pt2:Pos} {kt k2:Nat} {a b:Expr} (h:ZZ env.scope x y px py a b=true):swappedStores [.Tuple [.Name x px,.Name y py] kt pt] (.Tuple [a,b] k2 pt2) env=pure (some [x,y])/\env.scope.names.lookup x=some .local/\env.scope.names.lookup y=some .local:=by
 unfold ZZ at h;simp only [Bool.and_eq_true,Bool.not_eq_true'] at h;obtain ⟨⟨⟨⟨⟨⟨⟨⟨h1,h2⟩,h3⟩,h4⟩,h5⟩,h6⟩,h7⟩,h8⟩,h9⟩:=h;have k1:env.scope.kind=.function:=by split at h1;(assumption);(cases h1)
 have k2:env.scope.names.lookup x=some .local:=by split at h2;(assumption);(cases h2)
 have k3:env.scope.names.lookup y=some .local:=by split at h3;(assumption);(cases h3)
 refine ⟨?_,k2,k3⟩;have kx:env.kindOf x=some .local:=k2;have ky:env.kindOf y=some .local:=k3;have yx:(y == x)=false:=by
  cases q:y == x with
  | false=>rfl
  | true=>rw [beq_iff_eq.mp q,beq_self_eq_true] at h4;cases h4
 unfold swappedStores;simp [Env.blockKind,k1,ScopeKind.isAnnotationScope,kx,ky,beq_iff_eq.mp h5,h8,h9,List.eraseDups_cons,yx,h4,Expr.pos];rintro (z | z)
 ·cases a<;>first | (cases z;done) | (cases h6;done)
 ·cases b<;>first | (cases z;done) | (cases h7;done)
def ah (r:Rec) (C:Cf) (Γ:Gm) (x y:Str) (px py:Pos) (a b:Expr):Option CS:=if ZZ C.sc x y px py a b then (r.A C Γ [] [a,b]).bind fun c=>(Cw C.N x).bind fun i=>(Cw C.N y).bind fun j=>if decide (i < c.Γ.length) && decide (j < c.Γ.length) && !(i == j) && !C.F.io.contains i && !C.F.io.contains j then some ⟨some ((c.Γ.set i (some 0)).set j (some 0)),c.js++([i]++[j]),eH i j (AQ c.as),false,false,false⟩ else none else none
theorem Wa {r:Rec} (R:OkR r) {C:Cf} {X:Cx} {Γl:Option Gm} {Γ:Gm} {x y:Str} {px py pt pt2 pos:Pos} {kt k2:Nat} {a b:Expr} {c:CS} (ok:Cok C X) (h:ah r C Γ x y px py a b=some c):PS X (.Assign [.Tuple [.Name x px,.Name y py] kt pt] (.Tuple [a,b] k2 pt2) pos) (tS X.K C.F Γl Γ c.Γ c.js c.f):=by
 unfold ah at h;split at h
 ·rename_i hp;obtain ⟨c1,e1,h⟩:=bind_some' h;obtain ⟨i,e2,h⟩:=bind_some' h;obtain ⟨j,e3,h⟩:=bind_some' h;split at h
  ·rename_i hw;simp only [Bool.and_eq_true,decide_eq_true_eq,Bool.not_eq_true',beq_eq_false_iff_ne] at hw;obtain ⟨⟨⟨⟨w1,w2⟩,w3⟩,w4⟩,w5⟩:=hw;cases h;obtain ⟨a1,a2,a3,a4,a5⟩:=R.A ok e1;rw [<- ok.sc] at hp;obtain ⟨p1,p2,p3⟩:=ZY (pt:=pt) (pt2:=pt2) (kt:=kt) (k2:=k2) hp;refine PS.imp (Yx ok.calm ok.nd (by rw [ok.N];exact BY e2) (by rw [ok.N];exact BY e3) w3 p2 p3 a1 p1 rfl) fun D σ H h=>?_
   obtain ⟨g,m,P,r',R',k,res,e,q⟩:=h;refine AI c1.as r' a2 e fun ds m1 g1 P1 vs H1 hk ag s ar r1=>?_
   have rp:=ar.reps (a5 rfl)
   match ds,hk,rp with
   | [d1,d2],hk,rp =>
    obtain ⟨v1,us,rfl,h1,rp⟩:=AN rp;obtain ⟨v2,us2,rfl,h2,rp⟩:=AN rp;cases AR rp;obtain ⟨P2,r2,s2⟩:=r1.setNew w1 h1 fun _ z=>z.elim
    obtain ⟨P3,r3,s3⟩:=r2.setNew (by rw [List.length_set];exact w2) h2 fun _ z=>z.elim
    refine ⟨v1,v2,rfl,q.nx _ _ g1 P3 _ H1 rfl hk (ag.trans (BW.set.trans BW.set)) (s.less fun a z=>(s3 a z).elim (fun z=>(s2 a z).elim id False.elim) False.elim) ((Io.set ?_).trans (Io.set ?_)) r3⟩
    ·exact fun z=>by rw [List.contains_iff_mem.mpr z] at w4;cases w4
    ·exact fun z=>by rw [List.contains_iff_mem.mpr z] at w5;cases w5
   | [],hk,_=>cases hk
   | [_],hk,_=>cases hk
   | _::_::_::_,hk,_=>cases hk
  ·cases h
 ·cases h
def Sy (r:Rec) (C:Cf) (Γ:Gm) (x k e:Expr):Option CS:=if Ol e && Gg k then (Vk C x).bind fun i=>(r.E C Γ e).bind fun c=>(Pj r C c.Γ k).bind fun a=>if (c.Γ.getD i none).isSome && a.Γ.getD i none == some 1 then some ⟨some a.Γ,c.js++((a.js++[])++[i]),Xn i C.T.st c.f (AQ [a.a]),false,false,false⟩ else none else none
theorem OM {X:Cx} {x k:Expr} {tpos:Pos} (hk:Gg k=true):∀ v,assign (.Subscript x k tpos) X.env v=(do
      let ov <- holding [v] (eval x X.env)
      let iv <- holding [v,ov] (eval k X.env)
      standAt tpos
      holding [v,ov,iv] (setItem ov iv v)
      release [v,ov,iv] []):=fun v=>by
  cases k<;>first | rfl | (cases hk)
theorem Sx {r:Rec} (R:OkR r) {C:Cf} {X:Cx} {Γl:Option Gm} {Γ:Gm} {x k e:Expr} {tpos pos:Pos} {c:CS} (ok:Cok C X) (h:Sy r C Γ x k e=some c):PS X (.Assign [.Subscript x k tpos] e pos) (tS X.K C.F Γl Γ c.Γ c.js c.f):=by
 unfold Sy at h;split at h
 ·rename_i hn;rw [Bool.and_eq_true] at hn;obtain ⟨i,e0,h⟩:=bind_some' h;obtain ⟨c1,e1,h⟩:=bind_some' h;obtain ⟨a,e2,h⟩:=bind_some' h;split at h
  ·rename_i hw;rw [Bool.and_eq_true] at hw;cases h;obtain ⟨a1,a2⟩:=Fy R ok e2;obtain ⟨T,t1,t2⟩:=C.T.stok X ok.gx;refine PS.imp (RM (DT (R.E ok e1)) (ZN (EE ok e0) a1 t1 (OM hn.2)) (NL hn.1) ?_ rfl) fun D σ H h=>Qt t2 a2 (getD_some hw.1) (Bg (beq_iff_eq.mp hw.2)) h
   cases e<;>rfl
  ·cases h
 ·cases h
def Xg:Option Gm->Option Gm->Option Gm
 | some a,some b=>some (BV a b)
 | none,b=>b
 | a,none=>a
def iO (r:Rec) (C:Cf) (Γl:Option Gm) (Γ:Gm) (c:Expr) (a b:List Stmt):Option CS:=(r.T C Γ c).bind fun t=>(r.Ss C Γl t.Γ a).bind fun x=>(r.Ss C Γl t.Γ b).bind fun y=>let Γn:=Xg x.Γ y.Γ;let js:=t.js++(x.js++y.js);if JM Γn x.Γ && JM Γn y.Γ then some ⟨Γn,js,match x.Γ,y.Γ,Γn with
      | some _,some _,some Γ'=>if x.er || x.eb || x.ec || y.er || y.eb || y.ec then LF t.f x.f y.f else eI (Aq Γ' js) (LF t.f x.f y.f)
      | _,_,_=>LF t.f x.f y.f,x.er || y.er,x.eb || y.eb,x.ec || y.ec⟩ else none
theorem aq {r:Rec} (R:OkR r) {C:Cf} {X:Cx} {Γl:Option Gm} {Γ:Gm} {t:Expr} {a b:List Stmt} {pos:Pos} {c:CS} (ok:Cok C X) (h:iO r C Γl Γ t a b=some c):PS X (.If t a b pos) (tS X.K C.F Γl Γ c.Γ c.js c.f):=by
 obtain ⟨ct,e1,h⟩:=bind_some' h;obtain ⟨x,e2,h⟩:=bind_some' h;obtain ⟨y,e3,h⟩:=bind_some' h;simp only at h;split at h
 ·rename_i hw;rw [Bool.and_eq_true] at hw;have base:PS X (.If t a b pos) (tS X.K C.F Γl Γ (Xg x.Γ y.Γ) (ct.js++(x.js++y.js)) (LF ct.f x.f y.f)):=gM (R.T ok e1) (Qv (R.Ss ok e2) hw.1) (Qv (R.Ss ok e3) hw.2);cases h;split
  ·rename_i Γ' _ _ hj;split
   ·exact base
   ·simp only [hj] at base ⊢;exact PS.imp base fun D σ H h=>aC (fun i o z=>BH z) (fun i z=>Ap z) h
  ·exact base
 ·cases h
noncomputable def Th (f:Int->Int->Int) (x y:Dv):Option Dv:=match x,y with | .int i,.int j=>some (.int (f i j)) | _,_=>none
theorem Pi {f:Int->Int->Int} {x y z:Dv} (h:Th f x y=some z):∃ i j,x=.int i/\y=.int j/\z=.int (f i j):=by
 unfold Th at h;split at h
 ·cases h;exact ⟨_,_,rfl,rfl,rfl⟩
 ·cases h
def fD:=Th fun i j=>i+j
def bP:=Th fun i j=>i - j
def SZ (i:Nat) (p:Dv->Dv->Option Dv) (f:Ev Dv):Es:=fun R m k=>f R m fun d m1=>(p (m.at i) d).bind fun y=>k.nx (m1.set i y)
theorem OA {K:W.Frag} {F:Fr} {Γl:Option Gm} {Γ Γ2:Gm} {js:List Nat} {fe:Ev Dv} {i o:Nat} {f:Int->Int->Int} (h0:Γ[i]?=some (some o)) (hi:i < Γ2.length) (hio:i∉F.io) {D:Ends} {σ:St} {H:Hp} (h:tS K F Γl Γ (some (Γ2.set i (some 0))) (js++[i]) (SZ i (Th f) fe) D σ H):cD i (tE K Γ 0 Γ2 js fe) (gU f) D σ H:=by
 obtain ⟨g0,m,P,r,R,k,res,e,q⟩:=h;obtain ⟨v0,P0,ev0,rv0,_⟩:=r.see h0;refine ⟨v0,ev0,g0,m,P,r,R,_,res,e,fun d m1 g' P' Pv v H' hk ag s rv r1 n=>?_⟩;obtain ⟨y,e1,e2⟩:=bind_some' hk;obtain ⟨a,b,ea,rfl,rfl⟩:=Pi e1;rw [ea] at rv0;refine ⟨a,b,rep_int rv0,rep_int rv,?_⟩;obtain ⟨P2,r2,s2⟩:=r1.setNew (o:=0) (v:=.int (f a b)) (d:=.int (f a b)) (Pv:=nop) hi Ay fun _ z=>z.elim
 exact q.nx _ _ g' P2 _ H' rfl e2 (ag.trans BW.set) (s.less fun a z=>(s2 a z).elim .inl False.elim) (Io.set hio) r2
def ee (r:Rec) (C:Cf) (Γ:Gm) (x:Str) (op:Operator) (e:Expr):Option CS:=(Ju C x).bind fun i=>if (Γ.getD i none).isSome then (r.E C Γ e).bind fun c=>if decide (i < c.Γ.length) && !C.F.io.contains i then (match op with
    | .Add=>some ⟨some (c.Γ.set i (some 0)),c.js++[i],SZ i fD c.f,false,false,false⟩
    | .Sub=>some ⟨some (c.Γ.set i (some 0)),c.js++[i],SZ i bP c.f,false,false,false⟩
    | _=>none) else none else none
theorem Wn {r:Rec} (R:OkR r) {C:Cf} {X:Cx} {Γl:Option Gm} {Γ:Gm} {x:Str} {op:Operator} {e:Expr} {pos pos':Pos} {c:CS} (ok:Cok C X) (h:ee r C Γ x op e=some c):PS X (.AugAssign (.Name x pos') op e pos) (tS X.K C.F Γl Γ c.Γ c.js c.f):=by
 obtain ⟨i,e1,h⟩:=bind_some' h;split at h
 ·rename_i hs;obtain ⟨c1,e2,h⟩:=bind_some' h;split at h
  ·rename_i hw;simp only [Bool.and_eq_true,decide_eq_true_eq,Bool.not_eq_true'] at hw;obtain ⟨o,ho⟩:=getD_some hs;obtain ⟨h1,h2,h3⟩:=Fw ok e1;have hio:i∉C.F.io:=fun z=>by rw [List.contains_iff_mem.mpr z] at hw;cases hw.2
   split at h
   ·cases h;exact PS.imp (RL ok.nd h1 h2 (DT (R.E ok e2)) aI h3) fun _ _ _ h=>OA ho hw.1 hio h
   ·cases h;exact PS.imp (RL ok.nd h1 h2 (DT (R.E ok e2)) aH h3) fun _ _ _ h=>OA ho hw.1 hio h
   ·cases h
  ·cases h
 ·cases h
def SO (r:Rec) (C:Cf) (pre:Gm->Gm) (body:List Stmt):Nat->Gm->Option (Gm×CS)
 | 0,_=>none
 | n+1,Γ=>match r.Ss C (some Γ) (pre Γ) body with
  | some x=>if JM (some Γ) x.Γ then some (Γ,x) else SO r C pre body n (match x.Γ with | some Γ'=>BV Γ Γ' | none=>Γ)
  | none=>SO r C pre body n (Γ.map fun o=>o.map fun _=>0)
theorem JU {r:Rec} {C:Cf} {pre:Gm->Gm} {body:List Stmt}:∀ {n:Nat} {Γ:Gm} {p:Gm×CS},SO r C pre body n Γ=some p->r.Ss C (some p.1) (pre p.1) body=some p.2/\JM (some p.1) p.2.Γ=true
 | 0,_,_,h=>by cases h
 | n+1,Γ,p,h=>by
  unfold SO at h;split at h
  ·rename_i x hx;split at h
   ·rename_i hw;cases h;exact ⟨hx,hw⟩
   ·exact JU h
  ·exact JU h
def eY (r:Rec) (C:Cf) (Γ:Gm) (tg iter:Expr) (body:List Stmt):Option CS:=(match iter with | .Set _ _ _=>none | _=>r.I C Γ (LA tg) iter).bind fun s=>(cG C tg).bind fun t=>if t.J.all (fun i=>decide (i < s.Γ.length) && !C.F.io.contains i) then (SO r C t.Γ body 4 s.Γ).bind fun p=>if BQ p.1 s.Γ then
    let jb:=t.J++p.2.js
    some ⟨some p.1,s.js++jb,if p.2.er || p.2.eb then SW s.f t.f (Aq p.1 jb) (Aq C.F.Γr jb) p.2.f else SX s.f t.f (Aq p.1 jb) p.2.f,p.2.er,false,false⟩ else none else none
theorem Wg {r:Rec} (R:OkR r) {C:Cf} {X:Cx} {Γl:Option Gm} {Γ:Gm} {tg iter:Expr} {body:List Stmt} {pos:Pos} {c:CS} (ok:Cok C X) (h:eY r C Γ tg iter body=some c):PS X (.For tg iter body [] pos) (tS X.K C.F Γl Γ c.Γ c.js c.f):=by
 obtain ⟨s,e1,h⟩:=bind_some' h;obtain ⟨t,e2,h⟩:=bind_some' h;split at h
 ·rename_i hj;obtain ⟨p,e3,h⟩:=bind_some' h;split at h
  ·rename_i hw;have hs:∀ x,foldedSetIterable iter X.env x=pure x:=fun x=>by cases iter<;>first | rfl | (cases e1)
   have hI:r.I C Γ (LA tg) iter=some s:=by cases iter<;>first | exact e1 | (cases e1)
   obtain ⟨f1,f2⟩:=JU e3;obtain ⟨g1,_,g3⟩:=FZ ok e2;rw [List.all_eq_true] at hj;have hJ:t.J.all (fun i=>decide (i < p.1.length))=true:=by
    rw [List.all_eq_true];intro i hi;rw [Do hw];exact (Bool.and_eq_true_iff.mp (hj i hi)).1
   have hio:∀ i∈C.F.io,i∉t.J:=fun i hi z=>by
    have:=(Bool.and_eq_true_iff.mp (hj i z)).2;rw [List.contains_iff_mem.mpr hi] at this;cases this
   have hi:PI X tg iter (tI X.K Γ p.1 s.js s.f):=PI.imp (R.I tg ok hI) fun _ _ _ h=>UP hw h
   have hp:PassesOwn (model X.prog X.w) X.A X.env X.xe:=by rw [ok.xe];exact PassesOwn.never
   have hb:=R.Ss ok f1;simp only at h;cases h;split
   ·exact Yh hp ok.calm hi g1 (g3 hJ) hio hb f2 rfl rfl hs
   ·exact Yi hp ok.calm hi g1 (g3 hJ) hio hb f2 rfl hs
  ·cases h
 ·cases h
noncomputable def fK:Nat:=1000000
def fg (r:Rec) (C:Cf) (Γ:Gm) (c:Expr) (body:List Stmt):Option CS:=(fixW r C c body 4 Γ).bind fun p=>if BQ p.1 Γ then some ⟨some p.1,p.2.2.js,if p.2.2.er || p.2.2.eb then Xk fK p.2.1.f (Aq p.1 p.2.2.js) (Aq C.F.Γr p.2.2.js) p.2.2.f else Xl fK p.2.1.f (Aq p.1 p.2.2.js) p.2.2.f,p.2.2.er,false,false⟩ else none
where
 fixW (r:Rec) (C:Cf) (c:Expr) (body:List Stmt):Nat->Gm->Option (Gm×CT×CS)
 | 0,_=>none
 | n+1,Γ=>(r.T C Γ c).bind fun t=>if t.js.isEmpty && BQ Γ t.Γ then (match r.Ss C (some Γ) Γ body with
  | some x=>if JM (some Γ) x.Γ then some (Γ,t,x) else fixW r C c body n (match x.Γ with | some Γ'=>BV Γ Γ' | none=>Γ)
  | none=>fixW r C c body n (Γ.map fun o=>o.map fun _=>0)) else fixW r C c body n (BV Γ t.Γ)
theorem Ft {r:Rec} {C:Cf} {c:Expr} {body:List Stmt}:∀ {n:Nat} {Γ:Gm} {p:Gm×CT×CS},fg.fixW r C c body n Γ=some p->r.T C p.1 c=some p.2.1/\p.2.1.js=[]/\BQ p.1 p.2.1.Γ=true/\r.Ss C (some p.1) p.1 body=some p.2.2/\JM (some p.1) p.2.2.Γ=true
 | 0,_,_,h=>by cases h
 | n+1,Γ,p,h=>by
  unfold fg.fixW at h;obtain ⟨t,e1,h⟩:=bind_some' h;split at h
  ·rename_i hw;rw [Bool.and_eq_true] at hw;split at h
   ·rename_i x hx;split at h
    ·rename_i hl;cases h;exact ⟨e1,List.isEmpty_iff.mp hw.1,hw.2,hx,hl⟩
    ·exact Ft h
   ·exact Ft h
  ·exact Ft h
theorem cK {X:Cx} {F:Fr} {Γl Γn:Option Gm} {Γ Γ':Gm} {js:List Nat} {s:Stmt} {f:Es} (hw:BQ Γ' Γ=true) (h:PS X s (tS X.K F Γl Γ' Γn js f)):PS X s (tS X.K F Γl Γ Γn js f):=PS.imp h fun D σ H h=>by
 obtain ⟨g,m,P,r,R,k,res,e,q⟩:=h;obtain ⟨g2,P2,s2,r2⟩:=r.weaken hw;exact ⟨g2,m,P2,r2,R,k,res,e,⟨fun Γ' m' g' P' σ' H' e hk a s'=>q.nx Γ' m' g' P' σ' H' e hk a (s2.trans s'),fun d m' g' P' Pv σ' v H' hk a s'=>q.rt d m' g' P' Pv σ' v H' hk a (s2.trans s'),fun Γ' m' g' P' σ' H' e hk a s'=>q.bk Γ' m' g' P' σ' H' e hk a (s2.trans s'),fun Γ' m' g' P' σ' H' e hk a s'=>q.ct Γ' m' g' P' σ' H' e hk a (s2.trans s')⟩⟩
theorem aY {r:Rec} (R:OkR r) {C:Cf} {X:Cx} {Γl:Option Gm} {Γ:Gm} {t:Expr} {body:List Stmt} {pos:Pos} {c:CS} (ok:Cok C X) (h:fg r C Γ t body=some c):PS X (.While t body [] pos) (tS X.K C.F Γl Γ c.Γ c.js c.f):=by
 obtain ⟨p,e1,h⟩:=bind_some' h;split at h
 ·rename_i hw;cases h;obtain ⟨f1,f2,f3,f4,f5⟩:=Ft e1;have hp:PassesOwn (model X.prog X.w) X.A X.env X.xe:=by rw [ok.xe];exact PassesOwn.never
  have ht:=R.T ok f1;rw [f2] at ht;refine cK hw ?_;split
  ·exact cF fK hp ht (R.Ss ok f4) f3 f5 rfl rfl
  ·exact cH fK hp ht (R.Ss ok f4) f3 f5 rfl
 ·cases h
def eL:Es:=fun _ m k=>k.bk m
def eJ:Es:=fun _ m k=>k.ct m
def ay (Γl:Option Gm) (Γ:Gm):Option CS:=match Γl with
 | some Γ'=>if BQ Γ' Γ then some ⟨none,[],eL,false,true,false⟩ else none
 | none=>none
def av (Γl:Option Gm) (Γ:Gm):Option CS:=match Γl with
 | some Γ'=>if BQ Γ' Γ then some ⟨none,[],eJ,false,false,true⟩ else none
 | none=>none
theorem Wk {C:Cf} {X:Cx} {Γl:Option Gm} {Γ:Gm} {pos:Pos} {c:CS} (h:ay Γl Γ=some c):PS X (.Break pos) (tS X.K C.F Γl Γ c.Γ c.js c.f):=by
  unfold ay at h;split at h
  · rename_i Γ';split at h
    · rename_i hw;cases h;exact PS.imp RK fun D σ H h=>by
        obtain ⟨g,m,P,r,R,k,res,e,q⟩:=h;obtain ⟨g2,P2,s2,r2⟩:=r.weaken hw;exact q.bk Γ' m g2 P2 σ H rfl e BW.refl s2 Io.refl r2
    · cases h
  · cases h
theorem Wi {C:Cf} {X:Cx} {Γl:Option Gm} {Γ:Gm} {pos:Pos} {c:CS} (h:av Γl Γ=some c):PS X (.Continue pos) (tS X.K C.F Γl Γ c.Γ c.js c.f):=by
  unfold av at h;split at h
  · rename_i Γ';split at h
    · rename_i hw;cases h;exact PS.imp Kj fun D σ H h=>by
        obtain ⟨g,m,P,r,R,k,res,e,q⟩:=h;obtain ⟨g2,P2,s2,r2⟩:=r.weaken hw;exact q.ct Γ' m g2 P2 σ H rfl e BW.refl s2 Io.refl r2
    · cases h
  · cases h
def Qa (r:Rec) (C:Cf) (Γl:Option Gm) (Γ:Gm) (s:Stmt):Option CS:=match s with
 | .Pass _=>some (Qp Γ)
 | .Expr (.Constant (.str _) _ _) _=>some (Qp Γ)
 | .Expr e _=>au r C Γ e
 | .Return (some e) _=>eS r C Γ e
 | .Assign [.Name x _] (.ListComp elt gens scope _) _=>Xy r C Γ x elt gens scope
 | .Assign [.Name x _] e _=>if Ol e then (r.E C Γ e).bind fun c=>Sw C x c else none
 | .Assign [.Tuple [.Name x px,.Name y py] _ _] (.Tuple [a,b] _ _) _=>ah r C Γ x y px py a b
 | .Assign [.Tuple es k p] e _=>TU r C Γ es k p e
 | .Assign [.Subscript x k _] e _=>Sy r C Γ x k e
 | .AugAssign (.Name x _) op e _=>ee r C Γ x op e
 | .If c a b _=>iO r C Γl Γ c a b
 | .For tg iter body [] _=>eY r C Γ tg iter body
 | .While c body [] _=>fg r C Γ c body
 | .Break _=>ay Γl Γ
 | .Continue _=>av Γl Γ
 | _=>none
theorem QZ {r:Rec} (R:OkR r) {C:Cf} {X:Cx} {Γl:Option Gm} {Γ:Gm} {s:Stmt} {c:CS} (ok:Cok C X) (h:Qa r C Γl Γ s=some c):PS X s (tS X.K C.F Γl Γ c.Γ c.js c.f):=by
 unfold Qa at h;split at h
 ·cases h;exact Yf
 ·cases h;exact cN
 ·exact Wh R ok h
 ·exact WZ R ok h
 ·exact TV R ok h
 ·split at h
  ·rename_i hn;obtain ⟨c1,e1,h⟩:=bind_some' h;exact LS ok (R.E ok e1) (GH hn) h
  ·cases h
 ·exact Wa R ok h
 ·exact TR R ok h
 ·exact Sx R ok h
 ·exact Wn R ok h
 ·exact aq R ok h
 ·exact Wg R ok h
 ·exact aY R ok h
 ·exact Wk h
 ·exact Wi h
 ·cases h
def QY (r:Rec) (C:Cf) (Γl:Option Gm) (Γ:Gm) (ss:List Stmt):Option CS:=match ss with
 | []=>some (Qp Γ)
 | [s]=>r.S C Γl Γ s
 | s::ss=>(r.S C Γl Γ s).bind fun x=>match x.Γ with
  | none=>some x
  | some Γ'=>(r.Ss C Γl Γ' ss).bind fun y=>some ⟨y.Γ,x.js++y.js,eF x.f y.f,x.er || y.er,x.eb || y.eb,x.ec || y.ec⟩
theorem OO {r:Rec} (R:OkR r) {C:Cf} {X:Cx} {Γl:Option Gm} {Γ:Gm} {ss:List Stmt} {c:CS} (ok:Cok C X) (h:QY r C Γl Γ ss=some c):DL X ss (tS X.K C.F Γl Γ c.Γ c.js c.f):=by
 match ss,h with
 | [],h=>cases h;exact cM
 | [s],h=>exact cL (R.S ok h)
 | s::s2::ss,h =>
  obtain ⟨x,e1,h⟩:=bind_some' (show (r.S C Γl Γ s).bind _=some c from h);have h1:=R.S ok e1;cases hx:x.Γ with
  | none =>
   simp only [hx] at h;cases h;rw [hx] at h1 ⊢;exact Yg h1
  | some Γ' =>
   simp only [hx] at h;obtain ⟨y,e2,h⟩:=bind_some' h;cases h;rw [hx] at h1;exact Yk (f:=x.f) (f2:=y.f) (js:=x.js) (js2:=y.js) h1 (R.Ss ok e2)
def step (r:Rec):Rec:=⟨Hv r,Qh r,NI r,Qc r,Qa r,QY r⟩
def WS:Nat->Rec
 | 0=>⟨fun _ _ _=>none,fun _ _ _ _=>none,fun _ _ _=>none,fun _ _ _ _=>none,fun _ _ _ _=>none,fun _ _ _ _=>none⟩
 | n+1=>step (WS n)
theorem Nt:∀ n,OkR (WS n)
 | 0=>⟨(fun _ h=>by cases h),(fun _ h=>by cases h),(fun _ h=>by cases h),(fun _ _ h=>by cases h),(fun _ h=>by cases h),fun _ h=>by cases h⟩
 | n+1=>have R:=Nt n;⟨fun ok h=>Qd R ok h,fun ok h=>Qg R ok h,fun ok h=>QX R ok h,fun tg ok h=>Qb R tg ok h,fun ok h=>QZ R ok h,fun ok h=>OO R ok h⟩
noncomputable def dO (sc:Scope):List Str:=sc.names.filterMap fun p=>match p.2 with | .local=>some p.1 | .cell=>some p.1 | _=>none
mutual
noncomputable def AX:Expr->List Str
 | .ListComp e gs sc _=>dO sc++AX e++Rl gs
 | .BoolOp _ vs _=>Bf vs
 | .BinOp a _ b _=>AX a++AX b
 | .UnaryOp _ a _=>AX a
 | .IfExp a b c _=>AX a++AX b++AX c
 | .Compare a _ bs _=>AX a++Bf bs
 | .Call f es _ _=>AX f++Bf es
 | .Attribute a _ _=>AX a
 | .Subscript a b _=>AX a++AX b
 | .Slice a b c _=>Gi a++Gi b++Gi c
 | .List es _=>Bf es
 | .Tuple es _ _=>Bf es
 | .Dict _ vs _=>Bf vs
 | .JoinedStr vs _=>Bf vs
 | .FormattedValue v _ _ _=>AX v
 | _=>[]
noncomputable def Bf:List Expr->List Str
 | []=>[]
 | e::es=>AX e++Bf es
noncomputable def Gi:Option Expr->List Str
 | none=>[]
 | some e=>AX e
noncomputable def Rl:List Comprehension->List Str
 | []=>[]
 | ⟨_,it,ifs,_⟩::gs=>AX it++Bf ifs++Rl gs
end
mutual
noncomputable def Zm:Stmt->List Str
 | .Return v _=>Gi v
 | .Assign ts v _=>Bf ts++AX v
 | .AugAssign t _ v _=>AX t++AX v
 | .Expr v _=>AX v
 | .If c a b _=>AX c++Dn a++Dn b
 | .For _ it b _ _=>AX it++Dn b
 | .While c b _ _=>AX c++Dn b
 | .Raise e _ _=>Gi e
 | _=>[]
noncomputable def Dn:List Stmt->List Str
 | []=>[]
 | s::ss=>Zm s++Dn ss
end
noncomputable def Sk:List Str->List Str->List Str
 | [],acc=>acc
 | x::xs,acc=>if acc.contains x then Sk xs acc else Sk xs (acc++[x])
def AA (st:Stmt):List Str:=(Am st).args.map (·.arg)
def Be (st:Stmt):List Str:=Sk (AA st++dO (AG st)++Dn (AY st)) []
noncomputable def hd:(io:List Nat)->Jn Dv io->Dv
 | [],t=>t
 | _::_,t=>t.1
noncomputable def Na:(J:List Nat)->Dw J->List Dv
 | [],_=>[]
 | [_],d=>[d]
 | _::j::J,t=>t.1::Na (j::J) t.2
def tl:(io:List Nat)->Jn Dv io->List Dv
 | [],_=>[]
 | i::io,t=>Na (i::io) t.2
theorem IF:∀ (J:List Nat) (m:M),Na J (AU J m)=J.map m.at
 | [],_=>rfl
 | [_],_=>rfl
 | i::j::J,m=>by
  show m.at i::Na (j::J) (AU (j::J) m)=_;rw [IF (j::J) m];rfl
theorem Xi (io:List Nat) (d:Dv) (m:M):hd io (Xd io d m)=d:=by cases io<;>rfl
theorem XG (io:List Nat) (d:Dv) (m:M):tl io (Xd io d m)=io.map m.at:=by
 cases io with
 | nil=>rfl
 | cons i io=>exact IF (i::io) m
def Aj (ps:List Str) (io:List Nat) (ro:Nat) (nb:Bool) (F:List Dv->Option (Jn Dv io)):Sig where
 ps:=ps
 io:=io
 ro:=ro
 nb:=nb
 fn:=fun ds=>(F ds).bind fun t=>some (hd io t,tl io t)
 cps:=fun R ds k=>(F ds).bind fun t=>k (hd io t) (tl io t)
 eq:=fun R ds k=>by cases F ds<;>rfl
def kJ (io:List Nat):Kt (Jn Dv io):=⟨fun m=>some (Xd io .non m),fun d m=>some (Xd io d m),fun _=>none,fun _=>none⟩
end R
namespace L2
open PySem
abbrev XN (l:W.OpenLaw) (n:Nat) (as:List Addr) (K:Params->W.Frag) (N:Nat):Prop:=
 W.LeftO l.row.prog (W.view l.prog (List.range n)) [] (fun s=>W.xlAt (W.view l.prog (List.range n)) [] s && W.recOk [] s) (fun s=>as.map s.heap.get?) (fun w=>(K w.params).map fun p=>some p.2) N
theorem mk_law {l:W.OpenLaw} {n:Nat} {N:Nat} {d:DefRec} {K:Params->W.Frag} {as:List Addr} (ws:l.wellSaid=true) (left:XN l n as K N)
    (has:∀ P,as=(K P).map (·.1)) (hr:l.row.records=[]) (hdef:W.defOf (W.view l.prog (List.range n)) l.row.name=some (d,[])) (hp:l.row.prog.theDef l.row.name=some (d.params,d.body,d.scope)) (hk:W.kwWritten? d.params.kwonlyargs d.params.kw_defaults=some [])
    (hwr:(!l.row.writes || l.row.records.isEmpty)=true)
    (ok:(W.chainsOk (W.view l.prog (List.range n)) && W.opensWell l.row.prog && (W.frees l.row.toRowW && l.row.within.isEmpty))=true) (hb:l.row.prog.bare) (hw:l.row.toRowW.promised)
    (call:W.WalkO (W.view l.prog (List.range n)) [] (W.XL (W.view l.prog (List.range n)) []) (W.InK K) l.row.toRowW d [] fun f vs=>PySem.call f vs):l.Holds:=
  W.holds_law ws fun said=>W.holds_open (q:=W.view l.prog (List.range n)) (loose:=[]) (XP:=W.XL (W.view l.prog (List.range n)) []) (YP:=W.InK K) left (W.InK.of has) W.InK.keeps (fun s e=>W.xl_of s (Bool.and_eq_true_iff.mp e).1) W.XL.keeps hdef hp hk (fun s e=>W.recFacts_nil hr) hwr said ok hb hw call
noncomputable abbrev ke (P:Params) (x:Str) (t:Tok) (v:Value):DictEntry:=⟨PyData.keyHash P x,.str x t,v⟩
noncomputable abbrev cO (x:Str) (t:Tok) (l a s:Int) (r1 r2:Addr) (v1 v2 v3:Value) (r3:Addr) (t2:Nat):Obj:=⟨.type "code", none,.fields #[.str x t,.str x (t+1),.str "/claim/cut.py" (t+2),.int l 0,.int a 0,.int 0 0,.int 0 0,.int s 0,.ref r1,.bool true,.int 181 0,.ref r2,v1,v2,v3,.ref r3,.int t2 0,.int l 0,.str "/claim/cut.py" (t2+1)],#[]⟩
noncomputable def aV:Stmt->Pos
 | .FunctionDef _ _ _ _ _ _ _ _ _ p=>p
 | _=>⟨0,0,0,0⟩
noncomputable def PH (K:W.Frag) (n:Str):Addr:=match W.nsIn K mainGlobals n with
 | some (some (.ref a))=>a
 | _=>0
noncomputable def ZK (K:W.Frag) (f:Addr):Value:=match K.lookup f with
 | some ⟨_,_,.func d,_⟩=>d.pyModule
 | _=>.none
noncomputable def WU (K:W.Frag) (f:Addr):Value:=match K.lookup f with
 | some ⟨_,_,.func d,_⟩=>d.code
 | _=>.none
abbrev GF (K:W.Frag) (n:Str) (t:Stmt):Prop:=W.nsIn K mainGlobals n=some (some (.ref (PH K n))) /\
 K.lookup (PH K n)=some ⟨.type "function", none,.func (W.fnOf n n (Am t) (AY t) (AG t) .none .none .none (ZK K (PH K n)) none (WU K (PH K n)) .none),#[]⟩ /\
 W.codeIn K (WU K (PH K n)) n=true/\W.keepIn K (.ref (PH K n))=true
theorem MV {K:W.Frag} {n:Str} {t:Stmt} (h:GF K n t):Fun K n n t (PH K n) (W.fnOf n n (Am t) (AY t) (AG t) .none .none .none (ZK K (PH K n)) none (WU K (PH K n)) .none):=aO h.2.1 h.2.2.1 h.2.2.2
end L2
namespace R
open PySem L2
structure Md:Type 1 where
 T:Tb
 cs:List (Str×Dv)
 bl:List Str
def eQ (M:Md) (fs:List (Str×Sig)) (st:Stmt) (io:List Nat) (ro:Nat):Cf:=⟨Be st,AG st,fun _=>true,fs,M.cs,M.bl,M.T,⟨io,Lx (Be st).length io,ro⟩⟩
noncomputable def gN:Rec:=⟨fun _ _ _=>none,fun _ _ _ _=>none,fun _ _ _=>none,fun _ _ _ _=>none,fun _ _ _ _=>none,fun _ _ _ _=>none⟩
def cmp (n:Nat):Rec:=Nat.rec gN (fun _ r=>step r) n
theorem Sr:∀ n,cmp n=WS n
 | 0=>rfl
 | n+1=>by
  show step (cmp n)=step (WS n);rw [Sr n]
def Ul (M:Md) (fs:List (Str×Sig)) (st:Stmt) (io:List Nat) (ro:Nat):Option CS:=(cmp 100).Ss (eQ M fs st io ro) none (WL (Be st).length (AA st).length io) (AY st)
def Bv (M:Md) (fs:List (Str×Sig)) (st:Stmt) (io:List Nat) (ro:Nat) (ds:List Dv):Option (Jn Dv io):=match Ul M fs st io ro with
 | some c=>c.f (Jn Dv io) (ds++List.replicate ((Be st).length - (AA st).length) .non) (kJ io)
 | none=>none
noncomputable def gT:ScopeKind->Bool
 | .function=>true
 | _=>false
noncomputable def Ve:NameKind->Bool
 | .free=>false
 | _=>true
def Uj (N P:List Str) (sc:Scope):Bool:=gT sc.kind && !sc.isCoroutine && !sc.isGenerator && decide N.Nodup && (N.take P.length == P) && (P.all fun x=>match sc.names.lookup x with | some .local=>true | some .cell=>true | _=>false) && sc.names.all fun y=>Ve y.2
theorem NO {N P:List Str} {sc:Scope} (h:Uj N P sc=true):FnScope N P sc:=by
 unfold Uj at h;simp only [Bool.and_eq_true,Bool.not_eq_true',decide_eq_true_eq,List.all_eq_true] at h;obtain ⟨⟨⟨⟨⟨⟨h1,h2⟩,h3⟩,h4⟩,h5⟩,h6⟩,h7⟩:=h;refine ⟨?_,h2,h3,h4,by simpa using h5,fun x hx=>?_,fun y hy z=>?_⟩
 ·cases q:sc.kind<;>first | rfl | (rw [q] at h1;cases h1)
 ·have:=h6 x hx;split at this
  ·rename_i e;exact .inl e
  ·rename_i e;exact .inr e
  ·cases this
 ·have:=h7 y hy;rw [z] at this;cases this
def FY (M:Md) (fs:List (Str×Sig)) (st:Stmt) (io:List Nat) (ro:Nat):Bool:=Uj (Be st) (AA st) (AG st) && decide io.Nodup && (io.all fun i=>decide (i < (AA st).length)) && decide ((AA st).length<=(Be st).length) && match Ul M fs st io ro with
 | some c=>JM (some (Lx (Be st).length io)) c.Γ
 | none=>false
section
variable {P:Program} {w:World} {K:W.Frag} {mg:Str->Option Value} {base:Heap}
structure Bs (M:Md) (K:W.Frag) (mg:Str->Option Value):Prop where
 cs:∀ x d,(x,d)∈M.cs->∃ v u,mg x=some u/\RelV v u/\∀ g H,Rep K g H 0 d v nop
 bl:∀ x∈M.bl,mg x=none
def Fs (P:Program) (w:World) (K:W.Frag) (mg:Str->Option Value) (base:Heap) (k:Nat) (fs:List (Str×Sig)):Prop:=∀ x s,(x,s)∈fs->s.io.Nodup/\(∀ i∈s.io,i < s.ps.length)/\∃ j,j<=k/\Fx P w K mg base j x s.ps (UF K s)
theorem Fs.nil {k:Nat}:Fs P w K mg base k []:=fun _ _ h=>by cases h
theorem Fs.cons {k:Nat} {x:Str} {s:Sig} {fs:List (Str×Sig)} (h:Fs P w K mg base k fs) (h1:s.io.Nodup) (h2:∀ i∈s.io,i < s.ps.length) (h3:Fx P w K mg base (k+1) x s.ps (UF K s)):Fs P w K mg base (k+1) ((x,s)::fs):=fun y t q=>by
 rcases List.mem_cons.mp q with q | q
 ·cases q;exact ⟨h1,h2,k+1,Nat.le_refl _,h3⟩
 ·obtain ⟨a,b,j,hj,f⟩:=h y t q;exact ⟨a,b,j,by omega,f⟩
theorem Mi {M:Md} {k:Nat} {fs:List (Str×Sig)} {x:Str} {st:Stmt} {f:Addr} {fd:FuncData} {io:List Nat} {ro:Nat} {nb:Bool} {F:List Dv->Option (Jn Dv io)} (b:Bs M K mg) (h:Fs P w K mg base k fs) (c:FY M fs st io ro=true) (hF:∀ ds,ds.length=(AA st).length->Bv M fs st io ro ds=F ds)
    (Fn:Fun K x x st f fd):FnOk P w K mg base Pp (k+1) f fd (AA st) (UF K (Aj (AA st) io ro nb F)):=by
  unfold FY at c;simp only [Bool.and_eq_true,decide_eq_true_eq,List.all_eq_true] at c;obtain ⟨⟨⟨⟨c1,c2⟩,c3⟩,c4⟩,c5⟩:=c;cases e:Ul M fs st io ro with
  | none=>rw [e] at c5;cases c5
  | some cs =>
    rw [e] at c5;have S:=NO c1;refine eC (s:=Aj (AA st) io ro nb F) (N:=Be st) (body:=cs.f) (Γn:=cs.Γ) (js:=cs.js) Fn S c2 c3 c4 c5 (fun cdv A outer s' H E hr=>?_) fun ds d bs hl hf=>?_
    · have ok:Cok (eQ M fs st io ro) (LL Pp P w K mg base (Be st) x (AG st) f cdv A outer s' H E).nox:=⟨rfl,rfl,S.nd,rfl,fun _ _=>rfl,⟨rfl,k,hr⟩,fun y t q=>by
        obtain ⟨a,b,j,hj,q⟩:=h y t q;exact ⟨a,b,j,k,hj,hr,q⟩,b.cs,b.bl,rfl⟩
      unfold Ul at e;rw [Sr] at e;exact (Nt 100).Ss ok e
    · have hr:=hF ds hl;unfold Bv at hr;rw [e] at hr;obtain ⟨t,e1,e2⟩:=bind_some' (show (F ds).bind _=some (d,bs) from hf);cases e2;refine ⟨_,kJ io,t,hr.trans e1,fun m z=>?_,fun d' m z=>?_⟩
      · have z:some (Xd io .non m)=some t:=z;cases z;exact ⟨Xi io _ m,XG io _ m⟩
      · have z:some (Xd io d' m)=some t:=z;cases z;exact ⟨Xi io _ m,XG io _ m⟩
abbrev As (x:Str) (st:Stmt):Prop:=∀ (kV doc pm:Value) (an:Option Addr) (cdv ct:Value) (us:List Value),us.length=(AA st).length->bindArgs (W.fnOf x x (Am st) (AY st) (AG st) .none kV doc pm an cdv ct) ⟨us,[]⟩=pure ((AA st).zip us)
theorem FO {M:Md} {fs:List (Str×Sig)} {st:Stmt} {io:List Nat} {ro:Nat} (c:FY M fs st io ro=true):io.Nodup/\∀ i∈io,i < (AA st).length:=by
 unfold FY at c;simp only [Bool.and_eq_true,decide_eq_true_eq,List.all_eq_true] at c;exact ⟨c.1.1.1.2,c.1.1.2⟩
theorem Fs.def {M:Md} {k:Nat} {fs:List (Str×Sig)} {x:Str} {st:Stmt} {io:List Nat} {ro:Nat} {nb:Bool} {F:List Dv->Option (Jn Dv io)} (h:Fs P w K mg base k fs) (b:Bs M K mg) (c:FY M fs st io ro=true) (hF:∀ ds,ds.length=(AA st).length->Bv M fs st io ro ds=F ds)
    (gf:GF K x st) (hm:mg x=some (.ref (PH K x))) (hb:As x st):Fs P w K mg base (k+1) ((x,Aj (AA st) io ro nb F)::fs):=
  h.cons (FO c).1 (FO c).2 ⟨_,_,Mi b h c hF (MV gf),hm,gf.2.2.2,(MV gf).binds hb⟩
theorem Fs.defR {M:Md} {k:Nat} {fs:List (Str×Sig)} {x:Str} {st:Stmt} {io:List Nat} {ro:Nat} {nb:Bool} {F:Nat->List Dv->Option (Jn Dv io)} (h:Fs P w K mg base k fs) (b:Bs M K mg) (c0:Uj (Be st) (AA st) (AG st)=true) (h0:∀ ds,F 0 ds=none) (c:∀ n,FY M ((x,Aj (AA st) io ro nb (F n))::fs) st io ro=true)
    (hF:∀ n ds,ds.length=(AA st).length->Bv M ((x,Aj (AA st) io ro nb (F n))::fs) st io ro ds=F (n+1) ds)
    (gf:GF K x st) (hm:mg x=some (.ref (PH K x))) (hb:As x st):∀ n,Fs P w K mg base (k+n+1) ((x,Aj (AA st) io ro nb (F n))::fs)
  | 0=>h.cons (FO (c 0)).1 (FO (c 0)).2 ⟨_,_,(MV gf).ok (k:=k) (NO c0) (fun vs H Q E q=>by
      obtain ⟨g,ds,P,r,d,bs,e,q⟩:=q;have e:(F 0 ds).bind _=some (d,bs):=e;rw [h0 ds] at e;cases e) (fun cdv A outer s H vs Q E _ q=>by
      obtain ⟨g,ds,P,r,d,bs,e,q⟩:=q;have e:(F 0 ds).bind _=some (d,bs):=e;rw [h0 ds] at e;cases e),hm,gf.2.2.2,(MV gf).binds hb⟩
  | n+1=>by
    have ih:=Fs.defR h b c0 h0 c hF gf hm hb n;have hh:Fs P w K mg base (k+n+1) fs:=fun y t q=>ih y t (List.mem_cons_of_mem _ q)
    exact hh.cons (FO (c 0)).1 (FO (c 0)).2 ⟨_,_,Mi b ih (c n) (hF n) (MV gf),hm,gf.2.2.2,(MV gf).binds hb⟩
theorem gn {x:Str} {st:Stmt} (hn:(AA st).length=1) (h:∀ (kV doc pm:Value) (an:Option Addr) (cdv ct:Value) (a:Value),bindArgs (W.fnOf x x (Am st) (AY st) (AG st) .none kV doc pm an cdv ct) ⟨[a],[]⟩=pure ((AA st).zip [a])):As x st:=fun kV doc pm an cdv ct us hl=>by
 rw [hn] at hl
 match us,hl with | [a],_=>exact h kV doc pm an cdv ct a
theorem Jp {x:Str} {st:Stmt} (hn:(AA st).length=2) (h:∀ (kV doc pm:Value) (an:Option Addr) (cdv ct:Value) (a b:Value),bindArgs (W.fnOf x x (Am st) (AY st) (AG st) .none kV doc pm an cdv ct) ⟨[a,b],[]⟩=pure ((AA st).zip [a,b])):As x st:=fun kV doc pm an cdv ct us hl=>by
 rw [hn] at hl
 match us,hl with | [a,b],_=>exact h kV doc pm an cdv ct a b
theorem Pg {x:Str} {st:Stmt} (hn:(AA st).length=3) (h:∀ (kV doc pm:Value) (an:Option Addr) (cdv ct:Value) (a b c:Value),bindArgs (W.fnOf x x (Am st) (AY st) (AG st) .none kV doc pm an cdv ct) ⟨[a,b,c],[]⟩=pure ((AA st).zip [a,b,c])):As x st:=fun kV doc pm an cdv ct us hl=>by
 rw [hn] at hl
 match us,hl with | [a,b,c],_=>exact h kV doc pm an cdv ct a b c
theorem bC {x:Str} {st:Stmt} (hn:(AA st).length=4) (h:∀ (kV doc pm:Value) (an:Option Addr) (cdv ct:Value) (a b c d:Value),bindArgs (W.fnOf x x (Am st) (AY st) (AG st) .none kV doc pm an cdv ct) ⟨[a,b,c,d],[]⟩=pure ((AA st).zip [a,b,c,d])):As x st:=fun kV doc pm an cdv ct us hl=>by
 rw [hn] at hl
 match us,hl with | [a,b,c,d],_=>exact h kV doc pm an cdv ct a b c d
noncomputable def MI (K:W.Frag) (x:Str):Bool:=match W.nsIn K mainGlobals x with | some none=>true | _=>false
theorem ef {M:Md} {h:Heap} (X:K.In h) (G:h.Ns mainGlobals mg) (hc:M.cs=[]) (hz:M.bl.all (MI K)=true):Bs M K mg:=⟨(fun x d q=>by rw [hc] at q;cases q),fun x hx=>by
 have:=(List.all_eq_true.mp hz) x hx;unfold MI at this;split at this
 ·rename_i e;exact W.mg_none_of X G e
 ·cases this⟩
noncomputable def Gv {α:Type} (f:Dv->Dv->Dv->Dv->Option α) (ds:List Dv):Option α:=match ds with | [a,b,c,d]=>f a b c d | _=>none
noncomputable def Ep {α:Type} (f:Dv->Dv->Dv->Option α) (ds:List Dv):Option α:=match ds with | [a,b,c]=>f a b c | _=>none
theorem eB {α:Type}:∀ ds,Gv (fun _ _ _ _=>(none:Option α)) ds=none
 | []=>rfl | [_]=>rfl | [_,_]=>rfl | [_,_,_]=>rfl | [_,_,_,_]=>rfl | _::_::_::_::_::_=>rfl
theorem iQ {α:Type} {G:List Dv->Option α} {f:Dv->Option α} {n:Nat} (hn:n=1) (h:∀ a,G [a]=f a):∀ ds,ds.length=n->G ds=one f ds:=fun ds hl=>by
 subst hn
 match ds,hl with | [a],_=>exact h a
theorem Wo {α:Type} {G:List Dv->Option α} {f:Dv->Dv->Option α} {n:Nat} (hn:n=2) (h:∀ a b,G [a,b]=f a b):∀ ds,ds.length=n->G ds=two f ds:=fun ds hl=>by
 subst hn
 match ds,hl with | [a,b],_=>exact h a b
theorem bZ {α:Type} {G:List Dv->Option α} {f:Dv->Dv->Dv->Option α} {n:Nat} (hn:n=3) (h:∀ a b c,G [a,b,c]=f a b c):∀ ds,ds.length=n->G ds=Ep f ds:=fun ds hl=>by
 subst hn
 match ds,hl with | [a,b,c],_=>exact h a b c
theorem gm {α:Type} {G:List Dv->Option α} {f:Dv->Dv->Dv->Dv->Option α} {n:Nat} (hn:n=4) (h:∀ a b c d,G [a,b,c,d]=f a b c d):∀ ds,ds.length=n->G ds=Gv f ds:=fun ds hl=>by
 subst hn
 match ds,hl with | [a,b,c,d],_=>exact h a b c d
def NK (K:W.Frag):Sp:=fun vs H Q _=>∃ (a:Addr) (ns:List Int),vs=[.ref a]/\Bq K H a (ns.map V.int)/\ns.length<=63/\Wz H/\∀ H',Q (.bl true) H'
theorem Zu {k:Nat} {f:Addr} {fd:FuncData} {ps:List Str} {nb:Bool} {F:List Dv->Option Dv} (hp:ps.length=1) (h0:FnOk P w K mg base Pp k f fd ps (UF K (Aj ps [] 1 nb F))) (h:∀ ns:List Int,ns.length<=63->F [.scr ns]=some (.bl true)):FnOk P w K mg base Pp k f fd ps (NK K):=h0.imp fun vs H Q E q=>by
 obtain ⟨a,ns,rfl,hS,hn,hO,q⟩:=q;have hs:Scr K H a ns:=by
  rcases hS with (h1 | h1) | h1
  ·rcases hO a with z | ⟨o,xs,z⟩
   ·rw [h1] at z;cases z
   ·rw [h1] at z;cases z
  ·exact .inl h1
  ·exact .inr h1
 refine ⟨⟨fun _=>False,[]⟩,[.scr ns],nop,?_,.bl true,[],by show (F [.scr ns]).bind _=_;rw [h ns hn];rfl,fun g' H' v Pv Pb _ rv _ _=>by rw [rep_bl rv];exact q H'⟩;show Rel K _ H (Pu ps.length []) _ _ _;rw [hp];refine ⟨?_,fun _=>nop,⟨rfl,rfl,fun i o e=>?_,fun i e a z=>z,fun i j n a z=>z.elim⟩,fun a=>⟨fun z=>z.elim,fun ⟨i,z⟩=>z⟩⟩
 ·exact fun _ z=>z.elim
 ·match i,e with
  | 0,e=>cases e;exact ⟨_,_,rfl,rfl,by unfold Rep;exact ⟨⟨a,rfl,hs⟩,fun _ z=>z⟩⟩
end
section
variable {K:W.Frag} {g:G} {H:Hp}
theorem RA.nil {vs:List V} (h:RA K g H [] vs):vs=[]:=by unfold RA at h;exact h
theorem RA.cons {d:Dv} {ds:List Dv} {vs:List V} (h:RA K g H (d::ds) vs):∃ v r o P,vs=v::r/\o<=1/\Rep K g H o d v P/\RA K g H ds r:=by unfold RA at h;exact h
theorem RA.one {d:Dv} {vs:List V} (h:RA K g H [d] vs):∃ v o P,vs=[v]/\o<=1/\Rep K g H o d v P:=by
 obtain ⟨v,r,o,P,rfl,ho,h1,h2⟩:=h.cons;cases h2.nil;exact ⟨v,o,P,rfl,ho,h1⟩
theorem RA.two {d e:Dv} {vs:List V} (h:RA K g H [d,e] vs):∃ v o P w u R,vs=[v,w]/\o<=1/\Rep K g H o d v P/\u<=1/\Rep K g H u e w R:=by
 obtain ⟨v,r,o,P,rfl,ho,h1,h2⟩:=h.cons;obtain ⟨w,u,R,rfl,hu,h3⟩:=h2.one;exact ⟨v,o,P,w,u,R,rfl,ho,h1,hu,h3⟩
theorem rep_str {o:Nat} {l:List Nat} {v:V} {P:Fp} (h:Rep K g H o (.str l) v P):v=.str (tx l):=by unfold Rep at h;exact h.1
theorem rep_non {o:Nat} {v:V} {P:Fp} (h:Rep K g H o .non v P):v=.non:=by unfold Rep at h;exact h.1
theorem CM {o:Nat} {xs:List Dv} {v:V} {P:Fp} (ho:o<=1) (h:Rep K g H o (.lst xs) v P):∃ a us,v=.ref a/\Bq K H a us/\Reps K g H 0 xs us nop/\H a=some (.lst us):=by
 unfold Rep at h;obtain ⟨a,us,P',rfl,h1,h2,_⟩:=h;rw [Nat.sub_eq_zero_of_le ho] at h2;exact ⟨a,us,rfl,.inl (.inl h1.1),h2.z,h1.1⟩
theorem EA {o:Nat} {xs:List Dv} {v:V} {P:Fp} (ho:o<=1) (h:Rep K g H o (.tup xs) v P):∃ a us,v=.ref a/\Ds K H a us/\Reps K g H 0 xs us nop/\H a=some (.tup us):=by
 unfold Rep at h;obtain ⟨a,us,rfl,h1,h2⟩:=h;rw [Nat.sub_eq_zero_of_le ho] at h2;exact ⟨a,us,rfl,.inl (.inl h1),h2.z,h1⟩
theorem Iu {o:Nat} {ns:List Int} {v:V} {P:Fp} (h:Rep K g H o (.scr ns) v P):∃ a,v=.ref a/\Bq K H a (ns.map V.int):=by
 unfold Rep at h;obtain ⟨⟨a,rfl,h1⟩,_⟩:=h;exact ⟨a,rfl,h1.sq⟩
theorem EY {o:Nat} (ho:o<=1) {a:Addr} {xs:List Dv} {us:List V} (h1:H a=some (.tup us)) (h2:Reps K g H 0 xs us nop):Rep K g H o (.tup xs) (.ref a) nop:=by
 unfold Rep;rw [Nat.sub_eq_zero_of_le ho];exact ⟨a,us,rfl,h1,h2⟩
theorem AV.int {o:Nat} (i:Int):AV K g H o (.int i) (.int i) H:=AV.old Ay
theorem AV.bl {o:Nat} (b:Bool):AV K g H o (.bl b) (.bl b) H:=AV.old CL
theorem AV.str {o:Nat} (l:List Nat):AV K g H o (.str l) (.str (tx l)) H:=AV.old (by unfold Rep;exact ⟨rfl,fun _ z=>z⟩)
theorem AV.tup {o:Nat} (ho:o<=1) {xs:List Dv} {vs:List V} {p:Addr} (hp:H p=none) (h:Reps K g H 0 xs vs nop):AV K g H o (.tup xs) (.ref p) (upd H p (.tup vs)):=
 have sm:=ET hp (.tup vs)
 ⟨sm,nop,EY ho Bh (h.held (Step.same (g:=g) (P:=nop) sm) FpOk.nop fun _ z=>z.elim),fun _ z=>z.elim⟩
theorem IC {xs:List Dv} {vs:List V} (h:Reps K g H 0 xs vs nop):∀ n,Reps K g H 0 (List.replicate n xs).flatten (List.replicate n vs).flatten nop
 | 0=>by simpa using Reps.nil
 | n+1=>by
  rw [List.replicate_succ,List.replicate_succ,List.flatten_cons,List.flatten_cons];exact Ax h (IC h n)
theorem MA {xs:List Dv} {vs:List V} (n:Nat) (h:Reps K g H 0 xs vs nop):Reps K g H 0 (xs.drop n) (vs.drop n) nop:=by
 have h0:=CK.mp h;exact CK.mpr ⟨by simp [h0.1],fun i d v e1 e2=>h0.2 (n+i) d v (by simpa using e1) (by simpa using e2)⟩
theorem Ly {xs:List Dv} {vs:List V} (n:Nat) (h:Reps K g H 0 xs vs nop):Reps K g H 0 (xs.take n) (vs.take n) nop:=by
 have h0:=CK.mp h;refine CK.mpr ⟨by simp [h0.1],fun i d v e1 e2=>?_⟩;rw [List.getElem?_take] at e1 e2;split at e1
 ·rename_i hi;rw [if_pos hi] at e2;exact h0.2 i d v e1 e2
 ·cases e1
theorem Di {xs:List Dv} {vs:List V} (h:Reps K g H 0 xs vs nop):Reps K g H 0 xs.reverse vs.reverse nop:=by
 have h0:=CK.mp h;refine CK.mpr ⟨by simp [h0.1],fun i d v e1 e2=>?_⟩;have hi:i < xs.length:=by simpa using (List.getElem?_eq_some_iff.mp e1).1
 rw [List.getElem?_reverse hi] at e1;rw [List.getElem?_reverse (by rw [<- h0.1];exact hi),<- h0.1] at e2;exact h0.2 _ d v e1 e2
theorem Ba (ns:List Int):Reps K g H 0 (ns.map .int) (ns.map V.int) nop:=CK.mpr ⟨by simp,fun i d v e1 e2=>by
 rw [List.getElem?_map] at e1 e2;cases q:ns[i]? with
 | none=>rw [q] at e1;cases e1
 | some k=>rw [q] at e1 e2;cases e1;cases e2;exact Ay⟩
def cutA {α:Type} (xs:List α) (lo hi:Option Int):List α:=(xs.drop (HT.sIx xs.length 0 lo)).take (HT.sIx xs.length xs.length hi - HT.sIx xs.length 0 lo)
theorem map_cut {α β:Type} (f:α->β) (xs:List α) (lo hi:Option Int):(cutA xs lo hi).map f=cutA (xs.map f) lo hi:=by
 unfold cutA;rw [List.map_take,List.map_drop,List.length_map]
theorem atI_map {α β:Type} {f:α->β} {xs:List α} {i:Int}:EK (xs.map f) i=(EK xs i).map f:=by
 unfold EK;rw [List.length_map];cases MS xs.length i with
 | none=>rfl
 | some j=>show (xs.map f)[j]?=_;rw [List.getElem?_map];rfl
theorem FF {xs:List Dv} {vs:List V} (lo hi:Option Int) (h:Reps K g H 0 xs vs nop):Reps K g H 0 (cutA xs lo hi) (Ei vs lo hi) nop:=by
 unfold cutA Ei;rw [h.len];exact Ly _ (MA _ h)
theorem KW {xs:List Dv} {vs:List V} {i:Int} {d:Dv} (h:Reps K g H 0 xs vs nop) (e:EK xs i=some d):∃ v,EK vs i=some v/\Rep K g H 0 d v nop:=by
 unfold EK at e ⊢;rw [h.len] at e;cases q:MS vs.length i with
 | none=>rw [q] at e;cases e
 | some j =>
  rw [q] at e;obtain ⟨v,R,e1,e2,_⟩:=h.get e;exact ⟨v,e1,e2.z⟩
noncomputable def CW (C:Int->Int->Bool) (f:Int->Int->Int) (x y:Dv):Option Dv:=match x,y with | .int i,.int j=>if C i j=true then some (.int (f i j)) else none | _,_=>none
noncomputable def Cv (f:Int->Int->Bool) (x y:Dv):Option Bool:=match x,y with | .int i,.int j=>some (f i j) | _,_=>none
abbrev Mq:=CW (fun _ _=>true) fun i j=>i - j
abbrev Ck:=CW (fun _ j=>decide (0 < j)) fun i j=>i % j
abbrev Tv:=CW (fun _ j=>decide (0 < j) && decide (j < 1073741824)) fun i j=>i / j
abbrev bN:=CW (fun i j=>decide (0<=j) && decide (j<=1000000) && decide (i.natAbs < 2 ^ 64)) fun i j=>i ^ j.toNat
abbrev ek:=Cv fun i j=>decide (i < j)
abbrev fA:=Cv fun i j=>decide (j < i)
abbrev gq:=Cv fun i j=>decide (j<=i)
theorem EO {α:Type} {f:Dv->Dv->Option α} {ds:List Dv} {a:α} (h:two f ds=some a):∃ x y,ds=[x,y]/\f x y=some a:=by
 unfold two at h;split at h
 ·exact ⟨_,_,rfl,h⟩
 ·cases h
theorem FI {f:Dv->Dv->Option Dv} {o:Nat} {r:R2} (h:∀ g H x y v w o1 o2 P R d Q,Zd g H->o1<=1->Rep K g H o1 x v P->o2<=1->Rep K g H o2 y w R->f x y=some d->(∀ v H',AV K g H o d v H'->Q v H')->r v w H Q):AE K (two f) o (HP r):=fun g H ds vs d Q zd ra e k=>by
 obtain ⟨x,y,rfl,e⟩:=EO e;obtain ⟨v,o1,P,w,o2,R,rfl,h1,h2,h3,h4⟩:=ra.two;exact h g H x y v w o1 o2 P R d Q zd h1 h2 h3 h4 e k
theorem Dl {f:Dv->Dv->Option Bool} {r:R2} (h:∀ g H x y v w o1 o2 P R b (Q:VK),Zd g H->o1<=1->Rep K g H o1 x v P->o2<=1->Rep K g H o2 y w R->f x y=some b->Q (.bl b) H->r v w H Q):AE K (fun ds=>(two f ds).map .bl) 0 (HP r):=fun g H ds vs d Q zd ra e k=>by
 have e:(two f ds).map Dv.bl=some d:=e;cases q:two f ds with
 | none=>rw [q] at e;cases e
 | some b =>
  rw [q] at e;cases e;obtain ⟨x,y,rfl,e2⟩:=EO q;obtain ⟨v,o1,P,w,o2,R,rfl,h1,h2,h3,h4⟩:=ra.two;exact h g H x y v w o1 o2 P R b Q zd h1 h2 h3 h4 e2 (k _ _ (AV.bl _))
theorem JE {C:Int->Int->Bool} {C':Int->Int->Prop} {f:Int->Int->Int} {o:Nat} (hc:∀ i j,C i j=true->C' i j):AE K (two (CW C f)) o (HP (rI C' fun i j=>.int (f i j))):=FI fun g H x y v w o1 o2 P R d Q zd _ h1 _ h2 e k=>by
 unfold CW at e;split at e
 ·split at e
  ·rename_i c;cases e;rw [rep_int h1,rep_int h2];exact ⟨_,_,rfl,rfl,hc _ _ c,k _ _ (AV.int _)⟩
  ·cases e
 ·cases e
theorem VH {f:Int->Int->Int} {o:Nat}:AE K (two (CW (fun _ _=>true) f)) o (HP (Pt fun i j=>.int (f i j))):=FI fun g H x y v w o1 o2 P R d Q zd _ h1 _ h2 e k=>by
 unfold CW at e;split at e
 ·cases e;rw [rep_int h1,rep_int h2];exact ⟨_,_,rfl,rfl,k _ _ (AV.int _)⟩
 ·cases e
theorem JF {f:Int->Int->Bool}:AE K (fun ds=>(two (Cv f) ds).map .bl) 0 (HP (Pt fun i j=>.bl (f i j))):=Dl fun g H x y v w o1 o2 P R b Q zd _ h1 _ h2 e k=>by
 unfold Cv at e;split at e
 ·cases e;rw [rep_int h1,rep_int h2];exact ⟨_,_,rfl,rfl,k⟩
 ·cases e
noncomputable def BA (x y:Dv):Option Dv:=match x,y with
 | .int i,.int j=>some (.int (i+j))
 | .str a,.str b=>if a.length+b.length<=1000000 then some (.str (a++b)) else none
 | .lst xs,.lst ys=>if xs.length+ys.length<=1000000 then some (.lst (xs++ys)) else none
 | .tup xs,.tup ys=>if xs.length+ys.length<=1000000 then some (.tup (xs++ys)) else none
 | _,_=>none
theorem ZJ:AE K (two BA) 1 (HP (Kd K)):=FI fun g H x y v w o1 o2 P R d Q zd l1 h1 l2 h2 e k=>by
 unfold BA at e;split at e
 ·cases e;rw [rep_int h1,rep_int h2];exact Tn (k _ _ (AV.int _))
 ·split at e
  ·rename_i hl;cases e;rw [rep_str h1,rep_str h2];refine Ti (by rw [Bz,Bz];exact hl) ?_;rw [Lj];exact k _ _ (AV.str _)
  ·cases e
 ·split at e
  ·rename_i hl;cases e;obtain ⟨a,us,rfl,_,hx,ha⟩:=CM l1 h1;obtain ⟨b,ws,rfl,_,hy,hb⟩:=CM l2 h2;exact Tj ha hb (by rw [<- hx.len,<- hy.len];exact hl) fun p hp=>k _ _ (AV.lst zd (Ax hx hy) hp)
  ·cases e
 ·split at e
  ·rename_i hl;cases e;obtain ⟨a,us,rfl,ha,hx,ha'⟩:=EA l1 h1;obtain ⟨b,ws,rfl,hb,hy,hb'⟩:=EA l2 h2;have al:=Ax hx hy
   by_cases hu:us=[]
   ·subst hu;exact .inr ⟨a,b,ws,rfl,rfl,ha,hb,k _ _ (AV.old (EY (Nat.le_refl 1) hb' al))⟩
   ·refine .inl (.inr (.inr (.inr ⟨a,b,us,ws,rfl,rfl,ha,hb,hu,by rw [<- hx.len,<- hy.len];exact Nat.le_trans hl (by decide),fun hw=>?_,fun _ p hp=>k _ _ (AV.tup (Nat.le_refl 1) hp al)⟩)));subst hw;rw [List.append_nil] at al;exact k _ _ (AV.old (EY (Nat.le_refl 1) ha' al))
  ·cases e
 ·cases e
noncomputable def big (i:Int):Bool:=decide (-(2 ^ 64) < i) && decide (i < 2 ^ 64)
def CO (x y:Dv):Option Dv:=match x,y with
 | .int i,.int j=>if (big i || big j)=true then some (.int (i * j)) else none
 | .lst xs,.int k=>if xs.length * k.toNat<=1000000/\k < 1000000/\-1000000 < k then some (.lst (List.replicate k.toNat xs).flatten) else none
 | _,_=>none
theorem ZC:AE K (two CO) 1 (HP (fun x y H Q=>(rI XD fun i j=>.int (i * j)) x y H Q\/ck x y H Q)):=FI fun g H x y v w o1 o2 P R d Q zd l1 h1 l2 h2 e k=>by
 unfold CO at e;split at e
 ·split at e
  ·rename_i c;cases e;rw [rep_int h1,rep_int h2];refine .inl ⟨_,_,rfl,rfl,?_,k _ _ (AV.int _)⟩;rw [Bool.or_eq_true] at c;unfold big at c;rw [Bool.and_eq_true,Bool.and_eq_true,decide_eq_true_eq,decide_eq_true_eq,decide_eq_true_eq,decide_eq_true_eq] at c;exact c
  ·cases e
 ·split at e
  ·rename_i hl;cases e;obtain ⟨a,us,rfl,ha,hx,ha'⟩:=CM l1 h1;rw [rep_int h2];exact .inr ⟨a,_,us,rfl,rfl,ha',by omega,by omega,by rw [<- hx.len];exact Nat.le_trans hl.1 (by decide),fun p hp=>k _ _ (AV.lst zd (IC hx _) hp)⟩
  ·cases e
 ·cases e
noncomputable def Bx (x:Dv):Option Dv:=match x with
 | .str l=>if l.length<=1000000 then some (.int l.length) else none
 | .lst xs=>some (.int xs.length)
 | .tup xs=>some (.int xs.length)
 | .scr ns=>some (.int ns.length)
 | _=>none
theorem Ge {α:Type} {f:Dv->Option α} {ds:List Dv} {a:α} (h:one f ds=some a):∃ x,ds=[x]/\f x=some a:=by
 unfold one at h;split at h
 ·exact ⟨_,rfl,h⟩
 ·cases h
theorem Bb {f:Dv->Option Dv} {o:Nat} {r:UB} (h:∀ g H x v o1 P d Q,Zd g H->o1<=1->Rep K g H o1 x v P->f x=some d->(∀ v H',AV K g H o d v H'->Q v H')->r [v] H Q):AE K (one f) o r:=fun g H ds vs d Q zd ra e k=>by
 obtain ⟨x,rfl,e⟩:=Ge e;obtain ⟨v,o1,P,rfl,h1,h2⟩:=ra.one;exact h g H x v o1 P d Q zd h1 h2 e k
theorem ZD {o:Nat}:AE K (one Bx) o (OX K):=Bb fun g H x v o1 P d Q zd l1 h1 e k=>by
 unfold Bx at e;split at e
 ·split at e
  ·rename_i l hl;cases e;rw [rep_str h1];refine Ox (by rw [Bz];exact hl) ?_;rw [Bz];exact k _ _ (AV.int _)
  ·cases e
 ·cases e;obtain ⟨a,us,rfl,ha,hx,ha'⟩:=CM l1 h1;refine Vl ha' ?_;rw [<- hx.len];exact k _ _ (AV.int _)
 ·cases e;obtain ⟨a,us,rfl,ha,hx,ha'⟩:=EA l1 h1;refine ⟨_,_,rfl,.inr ⟨us,ha,rfl⟩,?_⟩;rw [<- hx.len];exact k _ _ (AV.int _)
 ·cases e;obtain ⟨a,rfl,ha⟩:=Iu h1;refine Ry ha ?_;rw [List.length_map];exact k _ _ (AV.int _)
 ·cases e
def AB (x y:Dv):Option Dv:=match x,y with
 | .lst xs,.int i=>EK xs i
 | .tup xs,.int i=>EK xs i
 | .scr ns,.int i=>(EK ns i).map .int
 | .str l,.int i=>if l.length<=1000000 then (EK l i).map fun c=>.str [c] else none
 | _,_=>none
theorem ZG:AE K (two AB) 0 (HP (Yp K)):=FI fun g H x y v w o1 o2 P R d Q zd l1 h1 l2 h2 e k=>by
 unfold AB at e;split at e
 ·obtain ⟨a,us,rfl,ha,hx,ha'⟩:=CM l1 h1;rw [rep_int h2];obtain ⟨u,e2,h3⟩:=KW hx e;exact Uo ha' e2 (k _ _ (AV.old h3))
 ·obtain ⟨a,us,rfl,ha,hx,ha'⟩:=EA l1 h1;rw [rep_int h2];obtain ⟨u,e2,h3⟩:=KW hx e;exact .inr (.inl ⟨a,us,_,u,rfl,rfl,ha,e2,k _ _ (AV.old h3)⟩)
 ·rename_i ns i;obtain ⟨a,rfl,ha⟩:=Iu h1;rw [rep_int h2];cases q:EK ns i with
  | none=>rw [q] at e;cases e
  | some j =>
   rw [q] at e;cases e;exact Yo ha (by rw [atI_map,q];rfl) (k _ _ (AV.int _))
 ·rename_i l i;split at e
  ·rename_i hl;rw [rep_str h1,rep_int h2];cases q:EK l i with
   | none=>rw [q] at e;cases e
   | some c =>
    rw [q] at e;cases e;exact Um (by rw [Bz];exact hl) (by rw [Fk];exact q) (k _ _ (AV.str [c]))
  ·cases e
 ·cases e
def Pl (x:Dv) (lo hi:Option Int):Option Dv:=match x with
 | .str l=>if l.length<=1000000 then some (.str (PL l lo hi)) else none
 | .lst xs=>some (.lst (cutA xs lo hi))
 | .tup xs=>some (.tup (cutA xs lo hi))
 | .scr ns=>some (.lst ((cutA ns lo hi).map .int))
 | _=>none
theorem dE (lo hi:Option Int):AE K (one fun d=>Pl d lo hi) 1 (bf fun x H Q=>OW K x lo hi H Q):=Bb fun g H x v o1 P d Q zd l1 h1 e k=>by
 show OW K v lo hi H Q;cases x with
 | str l =>
  simp only [Pl.eq_def] at e;split at e
  ·rename_i hl;cases e;rw [rep_str h1];refine UY (by rw [Bz];exact hl) ?_;rw [QK];exact k _ _ (AV.str _)
  ·cases e
 | lst xs =>
  cases e;obtain ⟨a,us,rfl,ha,hx,ha'⟩:=CM l1 h1;exact UZ ha' fun p hp=>k _ _ (AV.lst zd (FF lo hi hx) hp)
 | tup xs =>
  cases e;obtain ⟨a,us,rfl,ha,hx,ha'⟩:=EA l1 h1;have al:=FF lo hi hx
  by_cases w:HT.sIx us.length 0 lo=0/\HT.sIx us.length us.length hi=us.length
  ·refine .inr ⟨a,us,rfl,ha,w,k _ _ (AV.old ?_)⟩;have ec:Ei us lo hi=us:=by unfold Ei;rw [w.1,w.2];simp
   rw [ec] at al;exact EY (Nat.le_refl 1) ha' al
  ·exact .inl (.inr (.inr ⟨a,us,rfl,ha,w,fun p hp=>k _ _ (AV.tup (Nat.le_refl 1) hp al)⟩))
 | scr ns =>
  cases e;obtain ⟨a,rfl,ha⟩:=Iu h1;refine YW ha fun p hp=>k _ _ (AV.lst zd ?_ hp)
  rw [map_cut];exact FF lo hi (Ba ns)
 | _=>cases e
end
mutual
noncomputable def toD:Dv->L3.D
 | .bl b=>.fl (.bl b)
 | .int i=>.fl (.int i)
 | .str l=>.fl (.str (tx l))
 | .tup xs=>.tup (toDs xs)
 | .lst xs=>.lst (toDs xs)
 | _=>.fl .non
noncomputable def toDs:List Dv->List L3.D
 | []=>[]
 | d::ds=>toD d::toDs ds
end
mutual
noncomputable def Dv.cmp:Dv->Bool
 | .non | .bl _ | .int _ | .str _=>true
 | .tup xs=>BB xs
 | .lst xs=>BB xs
 | _=>false
noncomputable def BB:List Dv->Bool
 | []=>true
 | d::ds=>d.cmp && BB ds
end
mutual
noncomputable def Dv.dep:Dv->Nat
 | .tup xs=>By xs+1
 | .lst xs=>By xs+1
 | _=>0
noncomputable def By:List Dv->Nat
 | []=>0
 | d::ds=>max d.dep (By ds)
end
mutual
noncomputable def eqV:Dv->Dv->Bool
 | .non,.non=>true
 | .bl a,.bl b=>a == b
 | .bl a,.int b=>(if a then 1 else 0) == b
 | .int a,.bl b=>a == (if b then 1 else 0)
 | .int a,.int b=>a == b
 | .str a,.str b=>a == b
 | .tup xs,.tup ys=>eqVs xs ys
 | .lst xs,.lst ys=>eqVs xs ys
 | _,_=>false
noncomputable def eqVs:List Dv->List Dv->Bool
 | [],[]=>true
 | x::xs,y::ys=>eqV x y && eqVs xs ys
 | _,_=>false
end
mutual
theorem LI:∀ (d e:Dv),d.cmp=true->e.cmp=true->L3.eqD (toD d) (toD e)=eqV d e
 | .non,e,h,k | .bl _,e,h,k | .int _,e,h,k=>by cases e<;>first | (unfold toD L3.eqD eqV;rfl) | (unfold Dv.cmp at k;cases k)
 | .str l,e,h,k=>by
  cases e with
  | str m=>unfold toD L3.eqD eqV;rw [L2.eqV_str];exact (Bool.beq_eq_decide_eq l m).symm
  | _=>first | (unfold toD L3.eqD eqV;rfl) | (unfold Dv.cmp at k;cases k)
 | .tup xs,e,h,k=>by
  cases e with
  | tup ys=>unfold toD L3.eqD eqV;unfold Dv.cmp at h k;exact Mg xs ys h k
  | _=>first | (unfold toD L3.eqD eqV;rfl) | (unfold Dv.cmp at k;cases k)
 | .lst xs,e,h,k=>by
  cases e with
  | lst ys=>unfold toD L3.eqD eqV;unfold Dv.cmp at h k;exact Mg xs ys h k
  | _=>first | (unfold toD L3.eqD eqV;rfl) | (unfold Dv.cmp at k;cases k)
 | .dic xs,e,h,k | .ref _,e,h,k | .scr _,e,h,k | .ty _,e,h,k | .mtp _,e,h,k | .dti _,e,h,k=>by unfold Dv.cmp at h;cases h
theorem Mg:∀ (d e:List Dv),BB d=true->BB e=true->L3.eqDs (toDs d) (toDs e)=eqVs d e
 | [],[],_,_=>by unfold toDs L3.eqDs eqVs;rfl
 | [],_::_,_,_=>by simp only [toDs,L3.eqDs,eqVs]
 | _::_,[],_,_=>by simp only [toDs,L3.eqDs,eqVs]
 | x::xs,y::ys,h,k=>by
  unfold BB at h k;rw [Bool.and_eq_true] at h k;simp only [toDs,L3.eqDs,eqVs];rw [LI x y h.1 k.1,Mg xs ys h.2 k.2]
end
mutual
theorem dep_D:∀ (d:Dv),(toD d).dep=d.dep
 | .non | .bl _ | .int _ | .str _ | .dic _ | .ref _ | .scr _ | .ty _ | .mtp _ | .dti _=>by unfold toD L3.D.dep Dv.dep;rfl
 | .tup xs=>by unfold toD L3.D.dep Dv.dep;rw [deps_D xs]
 | .lst xs=>by unfold toD L3.D.dep Dv.dep;rw [deps_D xs]
theorem deps_D:∀ (d:List Dv),L3.depL (toDs d)=By d
 | []=>by unfold toDs L3.depL By;rfl
 | x::xs=>by simp only [toDs,L3.depL,By];rw [dep_D x,deps_D xs]
end
section
variable {K:W.Frag} {g:G} {H:Hp}
mutual
theorem Rep.is:∀ {o:Nat} {d:Dv} {v:V} {P:Fp},Rep K g H o d v P->d.cmp=true->L3.Is K H v (toD d)
 | _,.non,v,P,h,_=>by rw [rep_non h];unfold toD L3.Is;exact ⟨rfl,rfl⟩
 | _,.bl b,v,P,h,_=>by rw [rep_bl h];unfold toD L3.Is;exact ⟨rfl,rfl⟩
 | _,.int i,v,P,h,_=>by rw [rep_int h];unfold toD L3.Is;exact ⟨rfl,rfl⟩
 | _,.str l,v,P,h,_=>by rw [rep_str h];unfold toD L3.Is;exact ⟨rfl,rfl⟩
 | _,.tup xs,v,P,h,c=>by
  unfold Rep at h;obtain ⟨a,vs,rfl,h1,h2⟩:=h;unfold Dv.cmp at c;unfold toD L3.Is;exact ⟨a,vs,rfl,.inl (.inl h1),Reps.isL h2 c⟩
 | _,.lst xs,v,P,h,c=>by
  unfold Rep at h;obtain ⟨a,vs,P',rfl,h1,h2,_⟩:=h;unfold Dv.cmp at c;unfold toD L3.Is;exact ⟨a,vs,rfl,.inl (.inl h1.1),Reps.isL h2 c⟩
 | _,.dic xs,v,P,h,c | _,.ref _,v,P,h,c | _,.scr _,v,P,h,c | _,.ty _,v,P,h,c | _,.mtp _,v,P,h,c | _,.dti _,v,P,h,c=>by unfold Dv.cmp at c;cases c
theorem Reps.isL:∀ {o:Nat} {d:List Dv} {v:List V} {P:Fp},Reps K g H o d v P->BB d=true->L3.IsL K H v (toDs d)
 | _,[],v,P,h,_=>by
  unfold Reps at h;obtain ⟨rfl,_⟩:=h;unfold toDs L3.IsL
  trivial
 | _,x::xs,v,P,h,c=>by
  unfold Reps at h;obtain ⟨u,r,P1,P2,rfl,h1,h2,_⟩:=h;unfold BB at c;rw [Bool.and_eq_true] at c;unfold toDs L3.IsL;exact ⟨Rep.is h1 c.1,Reps.isL h2 c.2⟩
end
def Js (neg:Bool) (x y:Dv):Option Bool:=if (x.cmp && y.cmp && decide (x.dep<=150))=true then some (if neg then !eqV x y else eqV x y) else none
abbrev Lb:=Js false
abbrev Wu:=Js true
theorem RS {neg:Bool}:AE K (fun ds=>(two (Js neg) ds).map .bl) 0 (HP (L3.rEqA K neg)):=Dl fun g H x y v w o1 o2 P R b Q zd _ h1 _ h2 e k=>by
 unfold Js at e;split at e
 ·rename_i c;cases e;rw [Bool.and_eq_true,Bool.and_eq_true,decide_eq_true_eq] at c;refine ⟨toD x,toD y,by rw [dep_D];exact c.2,h1.is c.1.1,h2.is c.1.2,?_⟩;rw [LI x y c.1.1 c.1.2];exact k
 ·cases e
noncomputable def gA:Dv->Option (List Dv)
 | .lst xs=>some xs
 | .tup xs=>some xs
 | .mtp ls=>some (ls.map .str)
 | _=>none
def Kq (e:Dv) (ds:List Dv):Bool:=ds.any fun d=>eqV d e
def La (neg:Bool) (e s:Dv):Option Bool:=match e,s with
 | .str x,.str l=>some (if neg then !Q.sub1 x l else Q.sub1 x l)
 | e,s=>match gA s with
  | some xs=>if (e.cmp && BB xs && decide (By xs<=150))=true then some (if neg then !Kq e xs else Kq e xs) else none
  | none=>none
abbrev iR:=La false
abbrev bG:=La true
theorem anyD (e:Dv) (he:e.cmp=true):∀ (ds:List Dv),BB ds=true->((toDs ds).any fun d=>L3.eqD d (toD e))=Kq e ds
 | [],_=>by unfold toDs Kq;rfl
 | d::ds,h=>by
  unfold BB at h;rw [Bool.and_eq_true] at h;unfold Kq;simp only [toDs,List.any_cons];rw [LI d e h.1 he,anyD e he ds h.2];rfl
theorem Lz (ls:List (List Nat)):Reps K g H 0 (ls.map .str) (ls.map fun l=>V.str (tx l)) nop:=CK.mpr ⟨by simp,fun i d v e1 e2=>by
 rw [List.getElem?_map] at e1 e2;cases q:ls[i]? with
 | none=>rw [q] at e1;cases e1
 | some k=>rw [q] at e1 e2;cases e1;cases e2;unfold Rep;exact ⟨rfl,fun _ z=>z⟩⟩
theorem RQ {neg:Bool}:AE K (fun ds=>(two (La neg) ds).map .bl) 0 (HP (Q.rInQ K neg)):=Dl fun g H x y v w o1 o2 P R b Q zd l1 h1 l2 h2 e k=>by
  unfold La at e;split at e
  · cases e;rw [rep_str h1,rep_str h2];exact .inl ⟨_,_,rfl,rfl,k⟩
  · rename_i a s _;split at e
    · rename_i xs es;split at e
      · rename_i c;cases e;rw [Bool.and_eq_true,Bool.and_eq_true,decide_eq_true_eq] at c;have go:∀ p ys,w=.ref p->(Bq K H p ys\/Ds K H p ys)->Reps K g H 0 xs ys nop->L3.rInA K neg v w H Q:=by
          rintro p ys rfl hs hr;refine ⟨p,ys,toDs xs,toD x,rfl,hs,hr.isL c.1.2,h1.is c.1.1,by rw [deps_D];exact c.2,?_⟩;rw [anyD x c.1.1 xs c.1.2];exact k
        cases y with
        | lst ys =>
          cases es;obtain ⟨p,us,rfl,ha,hx,_⟩:=CM l2 h2;exact .inr (go p us rfl (.inl ha) hx)
        | tup ys =>
          cases es;obtain ⟨p,us,rfl,ha,hx,_⟩:=EA l2 h2;exact .inr (go p us rfl (.inr ha) hx)
        | mtp ls =>
          cases es;unfold Rep at h2;obtain ⟨⟨p,rfl,hm⟩,_⟩:=h2;exact .inr (go p _ rfl (.inr (.inr hm)) (Lz ls))
        | _=>cases es
      · cases e
    · cases e
noncomputable def Dv.isNon:Dv->Bool
 | .non=>true
 | _=>false
noncomputable def HE (x y:Dv):Option Bool:=match y with | .non=>some x.isNon | _=>none
noncomputable def LZ (x y:Dv):Option Bool:=match y with | .non=>some (!x.isNon) | _=>none
theorem rep_isNon {o:Nat} {d:Dv} {v:V} {P:Fp} (h:Rep K g H o d v P):decide (v=V.non)=d.isNon:=by
 cases d with
 | non=>rw [rep_non h];rfl
 | bl b=>rw [rep_bl h];rfl
 | int b=>rw [rep_int h];rfl
 | str b=>rw [rep_str h];rfl
 | tup b=>unfold Rep at h;obtain ⟨a,vs,rfl,_⟩:=h;rfl
 | lst b=>unfold Rep at h;obtain ⟨a,vs,P',rfl,_⟩:=h;rfl
 | dic b=>unfold Rep at h;exact h.elim
 | ref k=>unfold Rep at h;obtain ⟨⟨a,_,rfl⟩,_⟩:=h;rfl
 | scr ns=>obtain ⟨a,rfl,_⟩:=Iu h;rfl
 | ty n=>unfold Rep at h;rw [h.1];rfl
 | mtp n=>unfold Rep at h;obtain ⟨⟨a,rfl,_⟩,_⟩:=h;rfl
 | dti n=>unfold Rep at h;obtain ⟨a,rfl,_⟩:=h;rfl
theorem ZF:AE K (fun ds=>(two HE ds).map .bl) 0 (HP (fun x y H Q=>y=.non/\Q (.bl (decide (x=.non))) H)):=Dl fun g H x y v w o1 o2 P R b Q zd _ h1 _ h2 e k=>by
 unfold HE at e;split at e
 ·cases e;exact ⟨rep_non h2,by rw [rep_isNon h1];exact k⟩
 ·cases e
theorem VA:AE K (fun ds=>(two LZ ds).map .bl) 0 (HP (fun x y H Q=>y=.non/\Q (.bl (!decide (x=.non))) H)):=Dl fun g H x y v w o1 o2 P R b Q zd _ h1 _ h2 e k=>by
 unfold LZ at e;split at e
 ·cases e;exact ⟨rep_non h2,by rw [rep_isNon h1];exact k⟩
 ·cases e
end
noncomputable def Lh:List Dv->Option (List Bool)
 | []=>some []
 | .bl b::ds=>(Lh ds).map (b::·)
 | _=>none
noncomputable def DI:List Dv->Option (List Int)
 | []=>some []
 | .int b::ds=>(DI ds).map (b::·)
 | _=>none
noncomputable def Hq:List Dv->Option (List (List Nat))
 | []=>some []
 | .str b::ds=>(Hq ds).map (b::·)
 | _=>none
section
variable {K:W.Frag} {g:G} {H:Hp}
theorem GD:∀ {ds:List Dv} {bs:List Bool} {vs:List V},Reps K g H 0 ds vs nop->Lh ds=some bs->vs=bs.map V.bl
 | [],bs,vs,h,e=>by cases e;exact AR h
 | d::ds,bs,vs,h,e=>by
  obtain ⟨v,r,rfl,h1,h2⟩:=AN h;cases d<;>simp only [Lh,Option.map_eq_some_iff,reduceCtorEq] at e;obtain ⟨bs',e,rfl⟩:=e;rw [rep_bl h1,GD h2 e];rfl
theorem Cn:∀ {ds:List Dv} {bs:List Int} {vs:List V},Reps K g H 0 ds vs nop->DI ds=some bs->vs=bs.map V.int
 | [],bs,vs,h,e=>by cases e;exact AR h
 | d::ds,bs,vs,h,e=>by
  obtain ⟨v,r,rfl,h1,h2⟩:=AN h;cases d<;>simp only [DI,Option.map_eq_some_iff,reduceCtorEq] at e;obtain ⟨bs',e,rfl⟩:=e;rw [rep_int h1,Cn h2 e];rfl
theorem Hn:∀ {ds:List Dv} {bs:List (List Nat)} {vs:List V},Reps K g H 0 ds vs nop->Hq ds=some bs->vs=(bs.map tx).map V.str
 | [],bs,vs,h,e=>by cases e;exact AR h
 | d::ds,bs,vs,h,e=>by
  obtain ⟨v,r,rfl,h1,h2⟩:=AN h;cases d<;>simp only [Hq,Option.map_eq_some_iff,reduceCtorEq] at e;obtain ⟨bs',e,rfl⟩:=e;rw [rep_str h1,Hn h2 e];rfl
def Ms (x:Dv):Option Dv:=match x with | .lst xs=>(Lh xs).map fun bs=>.bl (bs.all id) | _=>none
def bQ (x:Dv):Option Dv:=match x with | .lst xs=>(Lh xs).map fun bs=>.bl (bs.any id) | _=>none
theorem ZI {o:Nat}:AE K (one Ms) o (cx K):=Bb fun g H x v o1 P d Q zd l1 h1 e k=>by
 unfold Ms at e;split at e
 ·simp only [Option.map_eq_some_iff] at e;obtain ⟨bs,e,rfl⟩:=e;obtain ⟨p,us,rfl,ha,hx,_⟩:=CM l1 h1;rw [GD hx e] at ha;exact ⟨p,bs,rfl,ha,k _ _ (AV.bl _)⟩
 ·cases e
theorem ZH {o:Nat}:AE K (one bQ) o (Q.rAny K):=Bb fun g H x v o1 P d Q zd l1 h1 e k=>by
 unfold bQ at e;split at e
 ·simp only [Option.map_eq_some_iff] at e;obtain ⟨bs,e,rfl⟩:=e;obtain ⟨p,us,rfl,ha,hx,_⟩:=CM l1 h1;rw [GD hx e] at ha;exact ⟨p,bs,rfl,ha,k _ _ (AV.bl _)⟩
 ·cases e
def bM (x:Dv):Option Dv:=match x with
 | .lst xs=>(DI xs).map fun ns=>.int ns.sum
 | .tup xs=>(DI xs).map fun ns=>.int ns.sum
 | _=>none
theorem Yz {o:Nat}:AE K (one bM) o (Q.rSumQ K):=Bb fun g H x v o1 P d Q zd l1 h1 e k=>by
 unfold bM at e;split at e
 ·simp only [Option.map_eq_some_iff] at e;obtain ⟨bs,e,rfl⟩:=e;obtain ⟨p,us,rfl,ha,hx,_⟩:=CM l1 h1;rw [Cn hx e] at ha;exact ⟨p,bs,rfl,.inl ha,k _ _ (AV.int _)⟩
 ·simp only [Option.map_eq_some_iff] at e;obtain ⟨bs,e,rfl⟩:=e;obtain ⟨p,us,rfl,ha,hx,_⟩:=EA l1 h1;rw [Cn hx e] at ha;exact ⟨p,bs,rfl,.inr ha,k _ _ (AV.int _)⟩
 ·cases e
def Tt (x:Dv):Option Dv:=match x with
 | .lst xs=>match DI xs with | some (n::ns)=>some (.int (Q.mxI (n::ns))) | _=>none
 | _=>none
theorem VC {o:Nat}:AE K (one Tt) o (XU K):=Bb fun g H x v o1 P d Q zd l1 h1 e k=>by
 unfold Tt at e;split at e
 ·split at e
  ·rename_i n ns e1;cases e;obtain ⟨p,us,rfl,ha,hx,_⟩:=CM l1 h1;rw [Cn hx e1] at ha;refine ⟨p,n::ns,rfl,ha,by simp,fun M hM hall=>?_⟩;obtain ⟨m1,m2⟩:=_root_.Q.mxI_spec (n::ns) (by simp);have:M=_root_.Q.mxI (n::ns):=Int.le_antisymm (m2 M hM) (hall _ m1);rw [this];exact k _ _ (AV.int _)
  ·cases e
 ·cases e
noncomputable def Ih (x y:Dv):Option Dv:=match x,y with | .int i,.int j=>some (.int (if j > i then j else i)) | _,_=>none
noncomputable def Ig (x y:Dv):Option Dv:=match x,y with | .int i,.int j=>some (.int (if j < i then j else i)) | _,_=>none
theorem Dk {f:Dv->Dv->Option Dv} {o:Nat} {r:UB} (h:∀ g H x y v w o1 o2 P R d Q,Zd g H->o1<=1->Rep K g H o1 x v P->o2<=1->Rep K g H o2 y w R->f x y=some d->(∀ v H',AV K g H o d v H'->Q v H')->r [v,w] H Q):AE K (two f) o r:=fun g H ds vs d Q zd ra e k=>by
 obtain ⟨x,y,rfl,e⟩:=EO e;obtain ⟨v,o1,P,w,o2,R,rfl,h1,h2,h3,h4⟩:=ra.two;exact h g H x y v w o1 o2 P R d Q zd h1 h2 h3 h4 e k
theorem VD {o:Nat}:AE K (two Ih) o (fun xs H Q=>∃ i j,xs=[.int i,.int j]/\Q (.int (if j > i then j else i)) H):=Dk fun g H x y v w o1 o2 P R d Q zd _ h1 _ h2 e k=>by
 unfold Ih at e;split at e
 ·cases e;rw [rep_int h1,rep_int h2];exact ⟨_,_,rfl,k _ _ (AV.int _)⟩
 ·cases e
theorem VB {o:Nat}:AE K (two Ig) o (fun xs H Q=>∃ i j,xs=[.int i,.int j]/\Q (.int (if j < i then j else i)) H):=Dk fun g H x y v w o1 o2 P R d Q zd _ h1 _ h2 e k=>by
 unfold Ig at e;split at e
 ·cases e;rw [rep_int h1,rep_int h2];exact ⟨_,_,rfl,k _ _ (AV.int _)⟩
 ·cases e
noncomputable def Tu (x:Dv):Option Dv:=match x with | .int i=>some (.int i) | .bl b=>some (.int (if b then 1 else 0)) | _=>none
theorem VG {o:Nat}:AE K (one Tu) o (fun xs H Q=>(∃ i,xs=[.int i]/\Q (.int i) H)\/∃ k,xs=[.bl k]/\Q (.int (if k then 1 else 0)) H):=Bb fun g H x v o1 P d Q zd l1 h1 e k=>by
 unfold Tu at e;split at e
 ·cases e;rw [rep_int h1];exact .inl ⟨_,rfl,k _ _ (AV.int _)⟩
 ·cases e;rw [rep_bl h1];exact .inr ⟨_,rfl,k _ _ (AV.int _)⟩
 ·cases e
def Tr (x:Dv):Option Dv:=match x with | .int i=>if i.natAbs < 2 ^ 64 then some (.str (Q.figs i)) else none | _=>none
theorem Uy {o:Nat}:AE K (one Tr) o (fun xs H Q=>∃ i,xs=[.int i]/\i.natAbs.log2 < 1920/\Q (.str (toString i)) H):=Bb fun g H x v o1 P d Q zd l1 h1 e k=>by
 unfold Tr at e;split at e
 ·rename_i i;split at e
  ·rename_i hi;cases e;rw [rep_int h1];refine ⟨i,rfl,?_,?_⟩
   ·by_cases h0:i.natAbs=0
    ·rw [h0];decide
    ·exact Nat.lt_trans ((Nat.log2_lt h0).mpr hi) (by decide)
   ·have:=AV.str (K:=K) (g:=g) (H:=H) (o:=o) (_root_.Q.figs i);unfold _root_.Q.figs at this;rw [<- UR] at this;exact k _ _ this
  ·cases e
 ·cases e
noncomputable def AK (x:Dv):Option Dv:=match x with | .lst xs=>some (.tup xs) | .tup xs=>some (.tup xs) | _=>none
theorem RO:AE K (one AK) 1 (Kc K):=Bb fun g H x v o1 P d Q zd l1 h1 e k=>by
 unfold AK at e;split at e
 ·cases e;obtain ⟨p,us,rfl,ha,hx,_⟩:=CM l1 h1;exact ⟨p,us,rfl,.inl ⟨ha,fun l hl=>k _ _ (AV.tup (Nat.le_refl 1) hl hx)⟩⟩
 ·cases e;obtain ⟨p,us,rfl,ha,hx,ha'⟩:=EA l1 h1;exact ⟨p,us,rfl,.inr ⟨ha,k _ _ (AV.old (EY (Nat.le_refl 1) ha' hx))⟩⟩
 ·cases e
noncomputable def HK (x:Dv):Option Dv:=match x with | .lst xs=>some (.lst xs) | .tup xs=>some (.lst xs) | .scr ns=>some (.lst (ns.map .int)) | _=>none
theorem VE:AE K (one HK) 1 (NR K):=Bb fun g H x v o1 P d Q zd l1 h1 e k=>by
 unfold HK at e;split at e
 ·cases e;obtain ⟨p,us,rfl,ha,hx,_⟩:=CM l1 h1;exact ⟨p,us,rfl,.inl ha,fun l hl=>k _ _ (AV.lst zd hx hl)⟩
 ·cases e;obtain ⟨p,us,rfl,ha,hx,_⟩:=EA l1 h1;exact ⟨p,us,rfl,.inr ha,fun l hl=>k _ _ (AV.lst zd hx hl)⟩
 ·cases e;obtain ⟨p,rfl,ha⟩:=Iu h1;exact ⟨p,_,rfl,.inl ha,fun l hl=>k _ _ (AV.lst zd (Ba _) hl)⟩
 ·cases e
def HL (x y:Dv):Option Dv:=match x,y with
 | .str sep,.lst xs=>match Hq xs with
  | some ys=>if (ys.map List.length).sum+ys.length * sep.length<=1000000 then some (.str (jn sep ys)) else none
  | none=>none
 | _,_=>none
theorem VF {o:Nat}:AE K (two HL) o (bU (RF K)):=Dk fun g H x y v w o1 o2 P R d Q zd l1 h1 l2 h2 e k=>by
 unfold HL at e;split at e
 ·split at e
  ·rename_i sep xs _ ys e1;split at e
   ·rename_i hz;cases e;obtain ⟨a,us,rfl,ha,hx,_⟩:=CM l2 h2;rw [rep_str h1];rw [Hn hx e1] at ha;refine ⟨tx sep,a,ys.map tx,rfl,rfl,ha,?_,?_⟩
    ·rw [YM,List.length_map,Bz];exact Nat.le_trans hz (by decide)
    ·rw [bh];exact k _ _ (AV.str _)
   ·cases e
  ·cases e
 ·cases e
noncomputable def FQ (x:Dv):Option Dv:=match x with
 | .str l=>if (l.all (fun c=>decide (c < 128)) && decide (l.length<=1000000))=true then some (.str (l.map PyProof.Rows.up1)) else none
 | _=>none
theorem RN {o:Nat}:AE K (one FQ) o (bU RB):=Bb fun g H x v o1 P d Q zd l1 h1 e k=>by
 unfold FQ at e;split at e
 ·split at e
  ·rename_i l c;cases e;rw [Bool.and_eq_true,decide_eq_true_eq,List.all_eq_true] at c;rw [rep_str h1];exact ⟨l,rfl,rfl,fun x hx=>of_decide_eq_true (c.1 x hx),c.2,k _ _ (AV.str _)⟩
  ·cases e
 ·cases e
def LB (e:Dv):List Dv->Option Nat
 | []=>none
 | d::ds=>if eqV d e=true then some 0 else (LB e ds).map (·+1)
theorem IH (e:Dv):∀ (ds:List Dv) (j:Nat),LB e ds=some j->(∃ d,ds[j]?=some d/\eqV d e=true)/\∀ (i:Nat) (d:Dv),i < j->ds[i]?=some d->eqV d e=false
 | [],j,h=>by cases h
 | d::ds,j,h=>by
  unfold LB at h;split at h
  ·rename_i c;cases h;exact ⟨⟨d,rfl,c⟩,fun i d hi=>by omega⟩
  ·rename_i c;simp only [Option.map_eq_some_iff] at h;obtain ⟨k,hk,rfl⟩:=h;obtain ⟨h1,h2⟩:=IH e ds k hk;refine ⟨by simpa using h1,fun i d' hi hd=>?_⟩;cases i with
   | zero=>simp at hd;subst hd;simpa using c
   | succ i=>exact h2 i d' (by omega) (by simpa using hd)
theorem toDs_get:∀ (ds:List Dv) (i:Nat),(toDs ds)[i]?=(ds[i]?).map toD
 | [],i=>by unfold toDs;simp
 | d::ds,0=>by unfold toDs;simp
 | d::ds,i+1=>by
  have:=toDs_get ds i;simp only [toDs,List.getElem?_cons_succ];exact this
theorem Hr {ds:List Dv} (h:BB ds=true):∀ {i:Nat} {d:Dv},ds[i]?=some d->d.cmp=true:=by
 induction ds with
 | nil=>intro i d e;simp at e
 | cons x xs ih =>
  unfold BB at h;rw [Bool.and_eq_true] at h;intro i d e;cases i with
  | zero=>simp at e;subst e;exact h.1
  | succ i=>exact ih h.2 (i:=i) (by simpa using e)
theorem SI {e:Dv} {ds:List Dv} {j:Nat} (he:e.cmp=true) (hd:BB ds=true) (h:LB e ds=some j) :
    (∃ d,(toDs ds)[j]?=some d/\L3.eqD d (toD e)=true)/\∀ (m:Nat) (d:L3.D),m < j->(toDs ds)[m]?=some d->L3.eqD d (toD e)=false:=by
  obtain ⟨⟨d,h1,h2⟩,h3⟩:=IH e ds j h;refine ⟨⟨toD d,by rw [toDs_get,h1];rfl,by rw [LI d e (Hr hd h1) he];exact h2⟩,fun m d' hm hd'=>?_⟩;rw [toDs_get] at hd';cases q:ds[m]? with
  | none=>rw [q] at hd';cases hd'
  | some dm =>
    rw [q] at hd';cases hd';rw [LI dm e (Hr hd q) he];exact h3 m dm hm q
def Jv (x e:Dv):Option Dv:=match x with
 | .lst xs=>if (e.cmp && BB xs && decide (By xs<=150))=true then (LB e xs).map fun j=>.int (j:Nat) else none
 | _=>none
theorem RP {o:Nat}:AE K (two Jv) o (bU (Q.rIndexD K)):=Dk fun g H x y v w o1 o2 P R d Q zd l1 h1 l2 h2 e k=>by
 unfold Jv at e;split at e
 ·split at e
  ·rename_i xs c;rw [Bool.and_eq_true,Bool.and_eq_true,decide_eq_true_eq] at c;simp only [Option.map_eq_some_iff] at e;obtain ⟨j,e1,rfl⟩:=e;obtain ⟨p,us,rfl,ha,hx,_⟩:=CM l1 h1;obtain ⟨q1,q2⟩:=SI c.1.1 c.1.2 e1;exact ⟨p,us,w,toDs xs,toD y,j,rfl,rfl,ha,hx.isL c.1.2,h2.is c.1.1,by rw [deps_D];exact c.2,q1,q2,k _ _ (AV.int _)⟩
  ·cases e
 ·cases e
def Dr (x e:Dv):Option Dv:=match x with
 | .tup xs=>if (e.cmp && BB xs && decide (By xs<=150))=true then (LB e xs).map fun j=>.int (j:Nat) else none
 | _=>none
theorem OZ {o:Nat}:AE K (two Dr) o (bU (Q.rIndexTD K)):=Dk fun g H x y v w o1 o2 P R d Q zd l1 h1 l2 h2 e k=>by
 unfold Dr at e;split at e
 ·split at e
  ·rename_i xs c;rw [Bool.and_eq_true,Bool.and_eq_true,decide_eq_true_eq] at c;simp only [Option.map_eq_some_iff] at e;obtain ⟨j,e1,rfl⟩:=e;obtain ⟨p,us,rfl,_,hx,ha⟩:=EA l1 h1;obtain ⟨q1,q2⟩:=SI c.1.1 c.1.2 e1;exact ⟨p,us,w,toDs xs,toD y,j,rfl,rfl,ha,hx.isL c.1.2,h2.is c.1.1,by rw [deps_D];exact c.2,q1,q2,k _ _ (AV.int _)⟩
  ·cases e
 ·cases e
noncomputable def dY:Dv->Option String
 | .non=>some "NoneType"
 | .bl _=>some "bool"
 | .int _=>some "int"
 | .str _=>some "str"
 | .tup _=>some "tuple"
 | .lst _=>some "list"
 | _=>none
def Le (x y:Dv):Option Dv:=match y with
 | .ty T=>if ["int", "bool", "str", "tuple", "list"].contains T=true then (dY x).map fun k=>.bl (Q.isSub k T) else none
 | _=>none
theorem ZE {o:Nat}:AE K (two Le) o (Yq K):=Dk fun g H x y v w o1 o2 P R d Q zd l1 h1 l2 h2 e k=>by
 unfold Le at e;split at e
 ·rename_i T;split at e
  ·rename_i c
   have hT:T∈["int", "bool", "str", "tuple", "list"]:=by simpa using c
   have hw:w=.ty T:=by unfold Rep at h2;exact h2.1
   subst hw
   have go:∀ kd,TyOf K H v (.type kd)->kd∈["NoneType", "bool", "int", "str", "tuple", "list"]->some (Dv.bl (_root_.Q.isSub kd T))=some d->Yq K [v,.ty T] H Q:=fun kd ty hk he=>by
    cases he;exact ⟨v,T,.type kd,_,rfl,ty,_root_.Q.kit_ok K hk hT,k _ _ (AV.bl _)⟩
   cases x with
   | non=>rw [rep_non h1] at go ⊢;exact go "NoneType" .non (by simp) e
   | bl b=>rw [rep_bl h1] at go ⊢;exact go "bool" (.bl _) (by simp) e
   | int b=>rw [rep_int h1] at go ⊢;exact go "int" (.int _) (by simp) e
   | str b=>rw [rep_str h1] at go ⊢;exact go "str" (.str _) (by simp) e
   | tup b=>obtain ⟨p,us,rfl,_,_,ha⟩:=EA l1 h1;exact go "tuple" (.tup ha) (by simp) e
   | lst b=>obtain ⟨p,us,rfl,_,_,ha⟩:=CM l1 h1;exact go "list" (.lst ha) (by simp) e
   | _=>cases e
  ·cases e
 ·cases e
noncomputable def gp (x y:Dv):Option Bool:=match x,y with
 | .int i,.int j=>some (decide (i<=j))
 | .str a,.str b=>some (!decide (b < a))
 | _,_=>none
theorem dF:AE K (fun ds=>(two gp ds).map .bl) 0 (HP Q.rLeA):=Dl fun g H x y v w o1 o2 P R b Q zd _ h1 _ h2 e k=>by
 unfold gp at e;split at e
 ·cases e;rw [rep_int h1,rep_int h2];exact .inl ⟨_,_,rfl,rfl,k⟩
 ·cases e;rw [rep_str h1,rep_str h2];refine .inr ⟨_,_,rfl,rfl,?_⟩;rw [Fk,Fk];exact k
 ·cases e
end
end R
namespace L2
open PySem PySem.Spec PyProof.Rows
section
variable {prog:Program} {w:World} {A:Around} {E:Value->Shared->Prop} {s:Shared}
theorem LO {l:Addr} {T:String} {o:Obj} {n:Nat} {vs:List Value} {Q:List Value->Shared->Prop} (hT:T = "list" \/ T = "tuple") (ho:s.heap.get? l=some o) (hc:o.cls=.type T) (hd:o.data=.seq vs.toArray n)
    (h:Q vs { s with heap:=(s.heap.push (seqObj "list" #[] 0)).update s.heap.objs.size (Obj.mapSeq (·++vs.toArray)) }) (hsz:vs.length<=sizeLine) :
    wpAny (model prog w) A (collect (.ref l)) Q E s:=by
  unfold collect;refine wpAny_bind (wpAny_runValue (codeAny_builtin entry_proto_collect' ?_))
  show wpAny _ _ (do again (.builtin "list.__iadd__" ⟨[<- newList [],.ref l],[]⟩)) _ _ s
  refine wpAny_bind (wpAny_newList (wpAny_pure ⟨Code.quiet_builtin _ (by decide +kernel),codeAny_builtin entry_list_iadd' ?_⟩))
  show wpAny _ _ (Builtin.List.listExtendWith (.ref s.heap.objs.size) (.ref l) (.ref s.heap.objs.size)) _ _ { s with heap:=s.heap.push (seqObj "list" #[] 0) }
  unfold Builtin.List.listExtendWith
  have ho':(s.heap.push (seqObj "list" #[] 0)).get? l=some o:=Heap.get?_push_of_some _ ho
  refine wpAny_bind (wpAny_typeOf (T:=T) ⟨o,ho',hc⟩ ?_)
  have ht:((Builtin.List.listSameRef (.ref s.heap.objs.size) (.ref l) || Value.type T == Value.type "list") || Value.type T == Value.type "tuple")=true:=by
    rcases hT with rfl | rfl
    · have:(Value.type "list" == Value.type "list")=true:=by rfl
      rw [this];simp
    · have:(Value.type "tuple" == Value.type "tuple")=true:=by rfl
      rw [this];simp
  rw [if_pos ht];refine wpAny_bind (listItems_at ho' hd ?_);refine wpAny_bind (listItems_at (xs:=#[]) (n:=0) (Heap.get?_push_size _ rfl) rfl ?_);rw [if_neg (by simp)];refine wpAny_bind (listUpdate_at (xs:=#[]) (n:=0) (Heap.get?_push_size _ rfl) rfl ?_ (Nat.zero_le _) (by show (#[]++vs.toArray).size<=sizeLine+1;simp only [Array.size_append,List.size_toArray,List.length_nil];omega));refine wpAny_pure ?_;show wpAny (model prog w) A (do
      let o <- load s.heap.objs.size
      match o.data with
      | .seq xs _=>pure xs.toList
      | _=>unsupported "internal:collect") Q E { s with heap:=(s.heap.push (seqObj "list" #[] 0)).update s.heap.objs.size (Obj.mapSeq (·++vs.toArray)) }
  refine wpAny_bind (wpAny_load (get?_update_seq (Heap.get?_push_size _ rfl) _) ?_);show wpAny _ _ (pure ((#[]:Array Value)++vs.toArray).toList) Q E _;rw [show ((#[]:Array Value)++vs.toArray).toList=vs by simp];exact wpAny_pure h
theorem GI {l:Addr} {T:String} {o:Obj} {n:Nat} {vs:List Value} {ns:List Int} {Q:Value->Shared->Prop} (hT:T = "list" \/ T = "tuple") (ho:s.heap.get? l=some o) (hc:o.cls=.type T) (hd:o.data=.seq vs.toArray n) (hI:IntsAre vs ns) (h64:vs.length < 64)
    (h:∀ (out:Array Value) (ns':List Int),IntsAre out.toList ns'->ns'.Perm ns->ns'.Pairwise (·<=·)->Q (.ref (s.heap.objs.size+1)) { s with heap:=sortedAll s.heap vs out }) :
    wpAny (model prog w) A (call (.builtin "sorted") [.ref l]) Q E s:=by
  refine Calls.call_function_entry kind_sorted plain_sorted entry_sorted (args_sorted1 _) ?_;unfold Builtin.«sorted»
  refine wpAny_bind (m:=checkCount "sorted" 1 1 _) (wpAny_pure ?_)
  refine wpAny_bind (LO hT ho hc hd ?_ (by rw [sizeLine_eq];omega));refine wpAny_bind (wpAny_newList ?_)
  have hsz:((s.heap.push (seqObj "list" #[] 0)).update s.heap.objs.size (Obj.mapSeq (·++vs.toArray))).objs.size=s.heap.objs.size+1:=by
    rw [Heap.size_update,size_push']
  have hoL:(((s.heap.push (seqObj "list" #[] 0)).update s.heap.objs.size (Obj.mapSeq (·++vs.toArray))).push (seqObj "list" vs.toArray 0)).get? (s.heap.objs.size+1)=some (seqObj "list" vs.toArray 0):=by
    rw [<- hsz];exact Heap.get?_push_size _ rfl
  show wpAny _ _ _ _ _ { s with heap:=((s.heap.push (seqObj "list" #[] 0)).update s.heap.objs.size (Obj.mapSeq (·++vs.toArray))).push (seqObj "list" vs.toArray 0) }
  rw [hsz];refine wpAny_bind (wpAny_holding (wpAny_call_entry slot_list_sort ⟨_,hoL,rfl⟩ entry_list_sort (list_sort_tree hoL hI h64 fun out ns' a1 a2 a3=>⟨_,rfl,?_⟩) (args_list_sort _)));exact wpAny_pure ⟨_,rfl,h out ns' a1 a2 a3⟩
theorem Ip (h:Heap) (vs:List Value) (out:Array Value):∃ c,(sortedAll h vs out).get? (h.objs.size+1)=some { cls:=.type "list", dict:=none,data:=.seq out c,slots:=#[] }:=by
 unfold sortedAll sortedHeap
 have hsz:((h.push (seqObj "list" #[] 0)).update h.objs.size (Obj.mapSeq (·++vs.toArray))).objs.size=h.objs.size+1:=by rw [Heap.size_update,size_push']
 have hoL:(((h.push (seqObj "list" #[] 0)).update h.objs.size (Obj.mapSeq (·++vs.toArray))).push (seqObj "list" vs.toArray 0)).get? (h.objs.size+1)=some (seqObj "list" vs.toArray 0):=by
  rw [<- hsz];exact Heap.get?_push_size _ rfl
 have h1:=get?_update_seq hoL (fun _=>#[])
 have h2:=get?_update_seq (Heap.get?_push_of_some (seqObj "list" #[] 0) (Heap.get?_push_of_some (seqObj "tuple" vs.toArray 0) h1)) (fun _=>out)
 exact ⟨_,h2⟩
theorem HU (h:Heap) (vs:List Value) (out:Array Value) {b:Addr} {o:Obj} (e:h.get? b=some o):(sortedAll h vs out).get? b=some o:=by
 have hb:b < h.objs.size:=Heap.lt_size e;have n0:b≠h.objs.size:=Nat.ne_of_lt hb;have n1:b≠h.objs.size+1:=Nat.ne_of_lt (Nat.lt_succ_of_lt hb);unfold sortedAll sortedHeap;refine (Heap.get?_update_ne _ _ _ _ n1).trans ?_;refine Heap.get?_push_of_some _ (Heap.get?_push_of_some _ ?_);refine (Heap.get?_update_ne _ _ _ _ n1).trans ?_;refine Heap.get?_push_of_some _ ?_;refine (Heap.get?_update_ne _ _ _ _ n0).trans ?_;exact Heap.get?_push_of_some _ e
end
theorem JR:∀ {ns:List Int} {its:List Value},AD (ns.map V.int) its->IntsAre its ns
 | [],_,.nil=>.nil
 | n::ns,_,.cons r rs=>by obtain ⟨t,rfl⟩:=r;exact .cons _ _ (JR rs)
theorem Nf:∀ {ns:List Int} {its:List Value},IntsAre its ns->AD (ns.map V.int) its
 | _,_,.nil=>.nil
 | _,_,.cons n t rs=>.cons ⟨t,rfl⟩ (Nf rs)
def Fm (K:W.Frag):List V->Hp->VK->Prop:=fun xs H Q=>∃ (p:Addr) (ns:List Int),xs=[.ref p]/\(Bq K H p (ns.map V.int)\/Ds K H p (ns.map V.int))/\ns.length < 64/\∀ (l:Addr) (ns':List Int),H l=none->ns'.Perm ns->ns'.Pairwise (·<=·)->Q (.ref l) (upd H l (.lst (ns'.map V.int)))
variable {X:Cx}
theorem LR:BC X (.builtin "sorted") (Fm X.K):=by
 intro pins s σ H xs us Q I r h;obtain ⟨p,ns,rfl,hq,hl,q⟩:=h;obtain ⟨u,rfl,rx⟩:=vals1 r;cases rx;have fin:∀ (its:List Value) (hv:AD (ns.map V.int) its) (out:Array Value) (ns':List Int),IntsAre out.toList ns'->ns'.Perm ns->ns'.Pairwise (·<=·)->EP X pins σ Q (.ref (s.heap.objs.size+1)) { s with heap:=sortedAll s.heap its out }:=fun its hv out ns' a1 a2 a3=>by
  obtain ⟨c,e⟩:=Ip s.heap its out;have v:=Nf a1;have e':out=out.toList.toArray:=by simp
  exact ⟨.ref (s.heap.objs.size+1),_,I.laid (t':=s.toks) (fun b o e=>HU _ _ _ e) (Nat.le_succ _) (show Al X.prog X.w _ _ _ (.lst (ns'.map V.int)) from ⟨by rw [List.length_map,a2.length_eq,sizeLine_eq];omega,out.toList,c,v,by rw [<- e'];exact e⟩),rfl,q _ ns' (I.hok.fresh (Nat.le_succ _)) a2 a3⟩
 rcases hq with hq | hq
 ·obtain ⟨its,r',pl,hz⟩:=I.list hq;have hlen:=r'.length;rw [List.length_map] at hlen;obtain ⟨o,ho,hc,n,hd⟩:=pl.isList;exact GI (.inl rfl) ho hc hd (JR r') (by omega) (fin its r')
 ·obtain ⟨its,r',pl,hz⟩:=I.tuple hq;have hlen:=r'.length;rw [List.length_map] at hlen;obtain ⟨o,ho,hc,n,hd⟩:=pl;exact GI (.inr rfl) ho hc hd (JR r') (by omega) (fin its r')
theorem Jj (K:W.Frag) (h:X.K=K:=by rfl):BC X (.builtin "sorted") (Fm K):=by subst h;exact LR
end L2
namespace R
open PySem L2
noncomputable def GO:Dv->Option (List Dv)
 | .tup ds=>some ds
 | .lst ds=>some ds
 | .scr ns=>some (ns.map .int)
 | _=>none
section
variable {K:W.Frag} {g:G} {H:Hp}
abbrev Wx (K:W.Frag) (g:G) (H:Hp) (a:Addr) (b:Bool) (ds:List Dv):Prop:=∀ g2 H2,HM g H g2 H2->∃ vs,DK K H2 a vs b/\Reps K g2 H2 0 ds vs nop
theorem Cp {d:Dv} {ds:List Dv} {v:V} (h:Rep K g H 0 d v nop) (e:GO d=some ds):∃ a b,v=.ref a/\Wx K g H a b ds:=by
 have z1:(0:Nat)<=1:=by decide
 cases d with
 | tup es =>
  cases e;obtain ⟨a,vs,rfl,_⟩:=EA z1 h;refine ⟨a,true,rfl,fun g2 H2 st=>?_⟩;obtain ⟨a',us,q,k1,k2,_⟩:=EA z1 (st.rep h);cases q;exact ⟨us,k1,k2⟩
 | lst es =>
  cases e;obtain ⟨a,vs,rfl,_⟩:=CM z1 h;refine ⟨a,false,rfl,fun g2 H2 st=>?_⟩;obtain ⟨a',us,q,k1,k2,_⟩:=CM z1 (st.rep h);cases q;exact ⟨us,k1,k2⟩
 | scr ns =>
  cases e;obtain ⟨a,rfl,_⟩:=Iu h;refine ⟨a,false,rfl,fun g2 H2 st=>?_⟩;obtain ⟨a',q,k1⟩:=Iu (st.rep h);cases q;exact ⟨_,k1,Ba ns⟩
 | _=>cases e
theorem Da:HM g H g H:=by
 first | exact ⟨nop,nop,Step.refl,fun _ z=>z.elim⟩ | exact ⟨nop,nop,Step.refl,FpOk.nop⟩ | exact HM.refl
def zipD2:List Dv->List Dv->List Dv
 | x1::xs1,x2::xs2=>.tup [x1,x2]::zipD2 xs1 xs2
 | _,_=>[]
theorem Hi:∀ (xs1 xs2:List Dv) (i:Nat) (e:Dv),(zipD2 xs1 xs2)[i]?=some e->∃ x1 x2,xs1[i]?=some x1/\xs2[i]?=some x2/\e=.tup [x1,x2]
 | x1::xs1,x2::xs2,0,e,h=>by simp [zipD2] at h;exact ⟨x1,x2,rfl,rfl,h.symm⟩
 | x1::xs1,x2::xs2,i+1,e,h=>by
  obtain ⟨y1,y2,h1,h2,q⟩:=Hi xs1 xs2 i e (by simpa [zipD2] using h);exact ⟨y1,y2,by simpa using h1,by simpa using h2,q⟩
 | [],_,i,e,h=>by simp [zipD2] at h
 | x1::xs1,[],i,e,h=>by simp [zipD2] at h
theorem Hj:∀ (xs1 xs2:List Dv) (i:Nat),(zipD2 xs1 xs2).length<=i->xs1.length<=i\/xs2.length<=i
 | x1::xs1,x2::xs2,0,h=>by simp [zipD2] at h
 | x1::xs1,x2::xs2,i+1,h=>by
  have:=Hj xs1 xs2 i (by simpa [zipD2] using h);simp only [List.length_cons];omega
 | [],_,i,h=>by simp
 | x1::xs1,[],i,h=>by simp
def IB (ds:List Dv):Option (List Dv):=two (fun x y=>(GO x).bind fun xs=>(GO y).bind fun ys=>some (zipD2 xs ys)) ds
def cX (K:W.Frag):List V->Hp->(It->Hp->Prop)->Prop:=fun vs H1 R=>∃ a1 a2 b1 b2,vs=[.ref a1,.ref a2]/\(∃ xs,DK K H1 a1 xs b1)/\(∃ xs,DK K H1 a2 xs b2)/\R (UD K a1 a2 b1 b2) H1
theorem UK {a1 a2:Addr} {b1 b2:Bool} {ds1 ds2:List Dv} (h1:Wx K g H a1 b1 ds1) (h2:Wx K g H a2 b2 ds2):Yl K (UD K a1 a2 b1 b2) (zipD2 ds1 ds2) g H:=by
 intro g2 H2 st;obtain ⟨vs1,sq1,r1⟩:=h1 g2 H2 st;obtain ⟨vs2,sq2,r2⟩:=h2 g2 H2 st;refine ⟨fun i d e=>?_,fun i hi=>⟨vs1,vs2,sq1,sq2,by have:=Hj _ _ _ hi;rw [<- r1.len,<- r2.len];exact this⟩⟩;obtain ⟨x1,x2,e1,e2,rfl⟩:=Hi _ _ i d e;obtain ⟨u1,_,eu1,ru1,_⟩:=r1.get e1;obtain ⟨u2,_,eu2,ru2,_⟩:=r2.get e2;refine ⟨⟨vs1,vs2,u1,u2,sq1,eu1,sq2,eu2⟩,fun x H3 y=>?_⟩;obtain ⟨p,w1,w2,hp,rfl,rfl,y1,y2⟩:=y;have:=y1 vs1 sq1;rw [eu1] at this;cases this;have:=y2 vs2 sq2;rw [eu2] at this;cases this;exact AV.tup (by decide) hp (Ax (BK ru1.z) (BK ru2.z))
theorem Qj:Jw K IB (cX K):=fun g H ds vs its Q zd ra e q=>by
 obtain ⟨x,y,rfl,e⟩:=EO e;obtain ⟨xs,e1,e⟩:=bind_some' e;obtain ⟨ys,e2,e⟩:=bind_some' e;cases e;obtain ⟨v,us,rfl,h1,h2⟩:=AN ra;obtain ⟨w,us,rfl,h4,h3⟩:=AN h2;cases AR h3;obtain ⟨a,b,rfl,q1⟩:=Cp h1 e1;obtain ⟨a2,b2,rfl,q2⟩:=Cp h4 e2;obtain ⟨w1,s1,_⟩:=q1 g H Da;obtain ⟨w2,s2,_⟩:=q2 g H Da;exact ⟨a,a2,b,b2,rfl,⟨w1,s1⟩,⟨w2,s2⟩,q _ H (fun _ _ z=>z) (UK q1 q2)⟩
def enumD (k:Nat):List Dv->List Dv
 | []=>[]
 | d::ds=>.tup [.int (k:Nat),d]::enumD (k+1) ds
theorem IP:∀ (ds:List Dv) (k i:Nat) (e:Dv),(enumD k ds)[i]?=some e->∃ d,ds[i]?=some d/\e=.tup [.int ((k+i:Nat):Int),d]
 | [],k,i,e,h=>by simp [enumD] at h
 | d::ds,k,0,e,h=>by simp [enumD] at h;exact ⟨d,rfl,h.symm⟩
 | d::ds,k,i+1,e,h=>by
  obtain ⟨d',h1,h2⟩:=IP ds (k+1) i e (by simpa [enumD] using h);exact ⟨d',by simpa using h1,by rw [h2];congr 3;omega⟩
theorem enumD_len:∀ (ds:List Dv) (k:Nat),(enumD k ds).length=ds.length
 | [],k=>rfl
 | d::ds,k=>by simp [enumD,enumD_len ds]
def NP (ds:List Dv):Option (List Dv):=one (fun x=>(GO x).bind fun xs=>some (enumD 0 xs)) ds
def cv (K:W.Frag):List V->Hp->(It->Hp->Prop)->Prop:=fun vs H1 R=>∃ a b xs,vs=[.ref a]/\DK K H1 a xs b/\R (XA K a b xs.length) H1
theorem UM {a:Addr} {b:Bool} {ds:List Dv} (h:Wx K g H a b ds):Yl K (XA K a b ds.length) (enumD 0 ds) g H:=by
 intro g2 H2 st;obtain ⟨vs,sq,hr⟩:=h g2 H2 st;refine ⟨fun i d e=>?_,fun i hi=>⟨vs,sq,hr.len.symm,by rw [enumD_len] at hi;exact hi⟩⟩;obtain ⟨d',e',rfl⟩:=IP ds 0 i d e;obtain ⟨v,_,ev,rv,_⟩:=hr.get e';refine ⟨⟨vs,v,sq,hr.len.symm,ev⟩,fun x H3 y=>?_⟩;obtain ⟨p,w,hp,rfl,rfl,y⟩:=y;have:=y vs sq;rw [ev] at this;cases this;have ri:Rep K g2 H2 0 (.int ((0+i:Nat):Int)) (.int (i:Nat)) nop:=by rw [Nat.zero_add];exact Ay
 exact AV.tup (by decide) hp (Ax (BK ri) (BK rv.z))
theorem Qn:Jw K NP (cv K):=fun g H ds vs its Q zd ra e q=>by
 obtain ⟨x,rfl,e⟩:=Ge e;obtain ⟨xs,e1,e⟩:=bind_some' e;cases e;obtain ⟨v,us,rfl,h1,h2⟩:=AN ra;cases AR h2;obtain ⟨a,b,rfl,q1⟩:=Cp h1 e1;obtain ⟨w1,s1,r1⟩:=q1 g H Da;exact ⟨a,b,w1,rfl,s1,by rw [<- r1.len];exact q _ H (fun _ _ z=>z) (UM q1)⟩
def cQ (ds:List Dv):Option (List Dv):=one (fun x=>match x with | .lst xs=>some xs.reverse | _=>none) ds
def gO (K:W.Frag):List V->Hp->(It->Hp->Prop)->Prop:=fun vs H1 R=>∃ a xs,vs=[.ref a]/\Bq K H1 a xs/\R (fm K a xs.length) H1
theorem YH {a:Addr} {ds:List Dv} (h:Wx K g H a false ds):Yl K (fm K a ds.length) ds.reverse g H:=by
 intro g2 H2 st;obtain ⟨vs,sq,hr⟩:=h g2 H2 st;refine ⟨fun i d e=>?_,fun i hi=>by rw [List.length_reverse] at hi;exact hi⟩;have hi:i < ds.length:=by have:=(List.getElem?_eq_some_iff.mp e).1;simpa using this
 rw [List.getElem?_reverse hi] at e;obtain ⟨u,_,eu,ru,_⟩:=hr.get e;have eu2:vs.reverse[i]?=some u:=by rw [List.getElem?_reverse (by rw [<- hr.len];exact hi),<- hr.len];exact eu
 refine ⟨⟨vs,u,sq,hr.len.symm,eu2⟩,fun x H3 y=>?_⟩;obtain ⟨rfl,y⟩:=y;have:=y vs sq;rw [eu2] at this;cases this;exact AV.old ru.z
theorem UX:Jw K cQ (gO K):=fun g H ds vs its Q zd ra e q=>by
  obtain ⟨x,rfl,e0⟩:=Ge e;split at e0
  · rename_i xs;cases e0;obtain ⟨v,us,rfl,h1,h2⟩:=AN ra;cases AR h2;obtain ⟨a,vs,rfl,hs,hx,_⟩:=CM (by decide:0<=1) h1;have q1:Wx K g H a false xs:=fun g2 H2 st=>by
      obtain ⟨a',us,z,k1,k2,_⟩:=CM (by decide:0<=1) (st.rep h1);cases z;exact ⟨us,k1,k2⟩
    exact ⟨a,vs,rfl,hs,by rw [<- hx.len];exact q _ H (fun _ _ z=>z) (YH q1)⟩
  · cases e0
end
section
variable {K:W.Frag} {g:G} {H:Hp}
def zipD3:List Dv->List Dv->List Dv->List Dv
 | x1::xs1,x2::xs2,x3::xs3=>.tup [x1,x2,x3]::zipD3 xs1 xs2 xs3
 | _,_,_=>[]
theorem Hg:∀ (xs1 xs2 xs3:List Dv) (i:Nat) (e:Dv),(zipD3 xs1 xs2 xs3)[i]?=some e->∃ x1 x2 x3,xs1[i]?=some x1/\xs2[i]?=some x2/\xs3[i]?=some x3/\e=.tup [x1,x2,x3]
 | x1::xs1,x2::xs2,x3::xs3,0,e,h=>by simp [zipD3] at h;exact ⟨x1,x2,x3,rfl,rfl,rfl,h.symm⟩
 | x1::xs1,x2::xs2,x3::xs3,i+1,e,h=>by
  obtain ⟨y1,y2,y3,h1,h2,h3,q⟩:=Hg xs1 xs2 xs3 i e (by simpa [zipD3] using h);exact ⟨y1,y2,y3,by simpa using h1,by simpa using h2,by simpa using h3,q⟩
 | [],_,_,i,e,h=>by simp [zipD3] at h
 | x1::xs1,[],_,i,e,h=>by simp [zipD3] at h
 | x1::xs1,x2::xs2,[],i,e,h=>by simp [zipD3] at h
theorem Hh:∀ (xs1 xs2 xs3:List Dv) (i:Nat),(zipD3 xs1 xs2 xs3).length<=i->xs1.length<=i\/xs2.length<=i\/xs3.length<=i
 | x1::xs1,x2::xs2,x3::xs3,0,h=>by simp [zipD3] at h
 | x1::xs1,x2::xs2,x3::xs3,i+1,h=>by
  have:=Hh xs1 xs2 xs3 i (by simpa [zipD3] using h);simp only [List.length_cons];omega
 | [],_,_,i,h=>by simp
 | x1::xs1,[],_,i,h=>by simp
 | x1::xs1,x2::xs2,[],i,h=>by simp
noncomputable def XH {α:Type} (f:Dv->Dv->Dv->Option α) (ds:List Dv):Option α:=match ds with | [a,b,c]=>f a b c | _=>none
def GT (ds:List Dv):Option (List Dv):=XH (fun x y z=>(GO x).bind fun xs=>(GO y).bind fun ys=>(GO z).bind fun zs=>some (zipD3 xs ys zs)) ds
def cW (K:W.Frag):List V->Hp->(It->Hp->Prop)->Prop:=fun vs H1 R=>∃ a1 a2 a3 b1 b2 b3,vs=[.ref a1,.ref a2,.ref a3]/\(∃ xs,DK K H1 a1 xs b1)/\(∃ xs,DK K H1 a2 xs b2)/\(∃ xs,DK K H1 a3 xs b3)/\R (UC K a1 a2 a3 b1 b2 b3) H1
theorem UJ {a1 a2 a3:Addr} {b1 b2 b3:Bool} {ds1 ds2 ds3:List Dv} (h1:Wx K g H a1 b1 ds1) (h2:Wx K g H a2 b2 ds2) (h3:Wx K g H a3 b3 ds3):Yl K (UC K a1 a2 a3 b1 b2 b3) (zipD3 ds1 ds2 ds3) g H:=by
 intro g2 H2 st;obtain ⟨vs1,sq1,r1⟩:=h1 g2 H2 st;obtain ⟨vs2,sq2,r2⟩:=h2 g2 H2 st;obtain ⟨vs3,sq3,r3⟩:=h3 g2 H2 st;refine ⟨fun i d e=>?_,fun i hi=>⟨vs1,vs2,vs3,sq1,sq2,sq3,by have:=Hh _ _ _ _ hi;rw [<- r1.len,<- r2.len,<- r3.len];exact this⟩⟩;obtain ⟨x1,x2,x3,e1,e2,e3,rfl⟩:=Hg _ _ _ i d e;obtain ⟨u1,_,eu1,ru1,_⟩:=r1.get e1;obtain ⟨u2,_,eu2,ru2,_⟩:=r2.get e2;obtain ⟨u3,_,eu3,ru3,_⟩:=r3.get e3;refine ⟨⟨vs1,vs2,vs3,u1,u2,u3,sq1,eu1,sq2,eu2,sq3,eu3⟩,fun x H3 y=>?_⟩;obtain ⟨p,w1,w2,w3,hp,rfl,rfl,y1,y2,y3⟩:=y;have:=y1 vs1 sq1;rw [eu1] at this;cases this;have:=y2 vs2 sq2;rw [eu2] at this;cases this;have:=y3 vs3 sq3;rw [eu3] at this;cases this;exact AV.tup (by decide) hp (Ax (BK ru1.z) (Ax (BK ru2.z) (BK ru3.z)))
theorem Qi:Jw K GT (cW K):=fun g H ds vs its Q zd ra e q=>by
 unfold GT XH at e;split at e
 ·rename_i x y z;obtain ⟨xs,e1,e⟩:=bind_some' e;obtain ⟨ys,e2,e⟩:=bind_some' e;obtain ⟨zs,e3,e⟩:=bind_some' e;cases e;obtain ⟨v,us,rfl,h1,h2⟩:=AN ra;obtain ⟨w,us,rfl,h4,h3⟩:=AN h2;obtain ⟨w',us,rfl,h5,h6⟩:=AN h3;cases AR h6;obtain ⟨a,b,rfl,q1⟩:=Cp h1 e1;obtain ⟨a2,b2,rfl,q2⟩:=Cp h4 e2;obtain ⟨a3,b3,rfl,q3⟩:=Cp h5 e3;obtain ⟨w1,s1,_⟩:=q1 g H Da;obtain ⟨w2,s2,_⟩:=q2 g H Da;obtain ⟨w3,s3,_⟩:=q3 g H Da;exact ⟨a,a2,a3,b,b2,b3,rfl,⟨w1,s1⟩,⟨w2,s2⟩,⟨w3,s3⟩,q _ H (fun _ _ z=>z) (UJ q1 q2 q3)⟩
 ·cases e
def BU (ds:List Dv):Option Dv:=match ds with
 | [.int j]=>if small j=true/\j<=1000000 then some (.lst ((List.range j.toNat).map fun k=>.int (k:Nat))) else none
 | [.int i,.int j]=>if (small i && small j)=true/\j - i<=1000000 then some (.lst ((List.range (j - i).toNat).map fun k=>.int (i+(k:Nat)))) else none
 | _=>none
theorem MB:AE K BU 1 iJ:=fun g H ds vs d Q zd ra e k=>by
 have fin:∀ (i j:Int),(∀ v H',AV K g H 1 (.lst ((List.range (j - i).toNat).map fun k=>.int (i+(k:Nat)))) v H'->Q v H')->∀ l,H l=none->Q (.ref l) (upd H l (.lst ((List.range (j - i).toNat).map fun k=>.int (i+(k:Nat))))):=fun i j kk l hl=>by
  have:=Ba (K:=K) (g:=g) (H:=H) ((List.range (j - i).toNat).map fun k:Nat=>i+(k:Int));simp only [List.map_map] at this;exact kk _ _ (AV.lst zd this hl)
 unfold BU at e;split at e
 ·rename_i j;split at e
  ·rename_i c;cases e;obtain ⟨v,o,P,rfl,_,h1⟩:=ra.one;rw [rep_int h1];have b:=CB c.1;refine ⟨0,j,.inl ⟨rfl,rfl⟩,by omega,by omega,fin 0 j fun v H' n=>k v H' ?_⟩;simpa using n
  ·cases e
 ·rename_i i j;split at e
  ·rename_i c;cases e;obtain ⟨v,o,P,w,u,R,rfl,_,h1,_,h2⟩:=ra.two;rw [rep_int h1,rep_int h2];rw [Bool.and_eq_true] at c;have b:=CB c.1.1;have b':=CB c.1.2;exact ⟨i,j,.inr rfl,by omega,by omega,fin i j k⟩
  ·cases e
 ·cases e
def EJ (x:Dv) (ds:List Dv):Option (Dv×Dv):=match x,ds with
 | .lst xs,[.int i]=>if small i=true then (seqIndex? i xs.length).bind fun k=>(xs[k]?).map fun d=>(d,.lst (xs.eraseIdx k)) else none
 | _,_=>none
theorem Ro:Mw K EJ RE:=fun g H x v P ds us r y Q zd rx rd e k=>by
 unfold EJ at e;split at e
 ·rename_i xs i;split at e
  ·rename_i c;obtain ⟨n,en,e⟩:=bind_some' e;simp only [Option.map_eq_some_iff,Prod.mk.injEq] at e;obtain ⟨d,ed,rfl,rfl⟩:=e;obtain ⟨a,vs,rfl,ha,hz,hx,hP,go⟩:=Dm rx;obtain ⟨u,us',rfl,hu,h2⟩:=AN rd;cases AR h2;obtain ⟨s,hd,mk⟩:=go (vs.eraseIdx n);have h0:=CK.mp hx;obtain ⟨w,P1,e2,r2,_⟩:=hx.get ed;have b:=CB c;rw [rep_int hu];refine ⟨a,vs,i,n,w,rfl,rfl,ha,by omega,by omega,by rw [<- h0.1];exact en,e2,k _ _ P s (mk _ ?_) (hd r2.z)⟩;refine CK.mpr ⟨by simp [List.length_eraseIdx,h0.1],fun j d v e3 e4=>?_⟩;rw [List.getElem?_eraseIdx] at e3 e4;split at e3
   ·rename_i z;rw [if_pos z] at e4;exact h0.2 j d v e3 e4
   ·rename_i z;rw [if_neg z] at e4;exact h0.2 (j+1) d v e3 e4
  ·cases e
 ·cases e
end
noncomputable def Yn (ds:List Dv):Option (List Dv):=match ds with
 | [.int i,.int j,.int k]=>if k = -1/\(-1000000<=i/\i < 1000000/\-1000000<=j/\j < 1000000) then some ((List.range (i - j).toNat).map fun q=>.int (i - (q:Nat))) else none
 | _=>none
def cf:List V->Hp->(It->Hp->Prop)->Prop:=fun vs H1 R=>∃ i j:Int,vs=[.int i,.int j,.int (-1)]/\(-1000000<=i/\i < 1000000/\-1000000<=j/\j < 1000000)/\R (fv i (i - j).toNat) H1
theorem UN {K:W.Frag} {g:G} {H:Hp} {hi:Int} {n:Nat}:Yl K (fv hi n) ((List.range n).map fun k=>.int (hi - (k:Nat))) g H:=by
 intro g2 H2 st;refine ⟨fun i d e=>?_,fun i hi=>by rw [List.length_map,List.length_range] at hi;exact hi⟩;obtain ⟨hi,rfl⟩:=Dh e;refine ⟨hi,fun x H3 y=>?_⟩;obtain ⟨rfl,rfl⟩:=y;exact AV.old Ay
theorem Qk {K:W.Frag}:Jw K Yn cf:=fun g H ds vs its Q zd ra e q=>by
 unfold Yn at e;split at e
 ·rename_i i j k;split at e
  ·rename_i c;obtain ⟨rfl,c⟩:=c;cases e;obtain ⟨v,us,rfl,h1,h2⟩:=AN ra;obtain ⟨w,us,rfl,h3,h4⟩:=AN h2;obtain ⟨u,us,rfl,h5,h6⟩:=AN h4;cases AR h6;rw [rep_int h1,rep_int h3,rep_int h5];exact ⟨i,j,rfl,c,q _ H (fun _ _ z=>z) UN⟩
  ·cases e
 ·cases e
noncomputable def HJ (x:Dv):Option Dv:=match x with | .lst xs=>some (.lst xs.reverse) | .scr ns=>some (.lst (ns.map .int).reverse) | _=>none
theorem MC {K:W.Frag}:AE K (one HJ) 1 (bf (iH K)):=Bb fun g H x v o1 P d Q zd l1 h1 e k=>by
 unfold HJ at e;split at e
 ·cases e;obtain ⟨p,us,rfl,ha,hx,_⟩:=CM l1 h1;exact ⟨p,us,rfl,ha,fun l hl=>k _ _ (AV.lst zd (Di hx) hl)⟩
 ·cases e;obtain ⟨p,rfl,ha⟩:=Iu h1;exact ⟨p,_,rfl,ha,fun l hl=>k _ _ (AV.lst zd (Di (Ba _)) hl)⟩
 ·cases e
noncomputable def Ts (x y:Dv):Option Dv:=match x,y with
 | .lst xs,.int i=>if i = -1 then some (.lst xs.reverse) else none
 | .tup xs,.int i=>if i = -1 then some (.tup xs.reverse) else none
 | _,_=>none
theorem Uz {K:W.Frag}:AE K (two Ts) 1 (HP (iG K)):=FI fun g H x y v w o1 o2 P R d Q zd l1 h1 l2 h2 e k=>by
 unfold Ts at e;split at e
 ·split at e
  ·rename_i hi;subst hi;cases e;obtain ⟨a,us,rfl,ha,hx,_⟩:=CM l1 h1;exact ⟨a,us,false,rfl,rep_int h2,ha,fun l hl=>k _ _ (AV.lst zd (Di hx) hl)⟩
  ·cases e
 ·split at e
  ·rename_i hi;subst hi;cases e;obtain ⟨a,us,rfl,ha,hx,_⟩:=EA l1 h1;exact ⟨a,us,true,rfl,rep_int h2,ha,fun l hl=>k _ _ (AV.tup (Nat.le_refl 1) hl (Di hx))⟩
  ·cases e
 ·cases e
noncomputable def Mr (x:Dv) (ds:List Dv):Option (Dv×Dv):=match x,ds with
 | .lst _,[]=>some (.non,.lst [])
 | _,_=>none
theorem Rp {K:W.Frag}:Mw K Mr RG:=fun g H x v P ds us r y Q zd rx rd e k=>by
 unfold Mr at e;split at e
 ·cases e;obtain ⟨a,vs,rfl,ha,hz,hx,hP,go⟩:=Dm rx;cases AR rd;obtain ⟨s,hd,mk⟩:=go [];exact ⟨a,vs,rfl,rfl,ha,k _ _ P s (mk _ Reps.nil) Dj⟩
 ·cases e
noncomputable def Hf:Dv->Option Bool
 | .non=>some false
 | .bl b=>some b
 | .int i=>some (i != 0)
 | .str l=>if l.length<=1000000 then some (!l.isEmpty) else none
 | .lst xs=>some (!xs.isEmpty)
 | .tup xs=>some (!xs.isEmpty)
 | .scr xs=>some (!xs.isEmpty)
 | _=>none
theorem NQ {K:W.Frag} {g:G} {H:Hp} {o:Nat} {xs:List Dv} {vs:List V} {P:Fp} (h:Reps K g H o xs vs P):(!xs.isEmpty)=!vs.isEmpty:=by
 have:=h.len;cases xs<;>cases vs<;>simp at this<;>rfl
theorem US (K:W.Frag) (g:G) (H:Hp) (o:Nat) (d:Dv) (v:V) (P:Fp) (b:Bool) (h:Rep K g H o d v P) (e:Hf d=some b):Tz K v H b:=by
 cases d with
 | non=>cases e;rw [rep_non h];exact rfl
 | bl b=>cases e;rw [rep_bl h];exact rfl
 | int i=>cases e;rw [rep_int h];exact rfl
 | str l =>
  simp only [Hf.eq_def] at e;split at e
  ·rename_i hl;cases e;rw [rep_str h];refine ⟨by rw [Bz];exact Nat.le_trans hl (by decide),?_⟩;rw [Bz];cases l<;>simp;omega
  ·cases e
 | lst xs =>
  cases e;unfold Rep at h;obtain ⟨a,vs,P',rfl,h1,h2,_⟩:=h;exact .inl ⟨vs,.inl (.inl h1.1),NQ h2⟩
 | tup xs =>
  cases e;unfold Rep at h;obtain ⟨a,vs,rfl,h1,h2⟩:=h;exact .inr (.inl ⟨vs,.inl (.inl h1),NQ h2⟩)
 | scr ns =>
  cases e;obtain ⟨a,rfl,h1⟩:=Iu h;exact .inl ⟨_,h1,by cases ns<;>rfl⟩
 | _=>cases e
noncomputable def Eb (ns:List Int):List Int:=ns.mergeSort fun a b=>decide (a<=b)
theorem Gp (ns:List Int):(Eb ns).Perm ns:=List.mergeSort_perm ..
theorem SE (ns:List Int):(Eb ns).Pairwise (·<=·):=by
 have:=List.pairwise_mergeSort (le:=fun a b:Int=>decide (a<=b)) (fun a b c h1 h2=>by simp at *;omega) (fun a b=>by simp;omega) ns;exact this.imp fun h=>of_decide_eq_true h
theorem Kz {ns ms:List Int} (h:ms.Perm ns) (h2:ms.Pairwise (·<=·)):ms=Eb ns:=List.Perm.eq_of_pairwise (fun a b _ _ h1 h2=>Int.le_antisymm h1 h2) h2 (SE ns) (h.trans (Gp ns).symm)
def DG (x:Dv):Option Dv:=match x with
 | .lst xs=>(DI xs).bind fun ns=>if ns.length < 64 then some (.lst ((Eb ns).map .int)) else none
 | .tup xs=>(DI xs).bind fun ns=>if ns.length < 64 then some (.lst ((Eb ns).map .int)) else none
 | _=>none
theorem OY {K:W.Frag}:AE K (one DG) 1 (Fm K):=Bb fun g H x v o1 P d Q zd l1 h1 e k=>by
 have go:∀ {xs:List Dv} {us:List V} {p:Addr},Reps K g H 0 xs us nop->((DI xs).bind fun ns=>if ns.length < 64 then some (Dv.lst ((Eb ns).map .int)) else none)=some d->(Bq K H p us\/Ds K H p us)->Fm K [.ref p] H Q:=fun {xs us p} hx e ha=>by
  cases e1:DI xs with
  | none=>rw [e1] at e;cases e
  | some ns =>
   rw [e1,Option.bind_some] at e
   by_cases hl:ns.length < 64
   ·rw [if_pos hl] at e;cases e;rw [Cn hx e1] at ha;exact ⟨p,ns,rfl,ha,hl,fun l ns' h h2 h3=>by rw [Kz h2 h3];exact k _ _ (AV.lst zd (Ba _) h)⟩
   ·rw [if_neg hl] at e;cases e
 unfold DG at e;split at e
 ·obtain ⟨p,us,rfl,ha,hx,_⟩:=CM l1 h1;exact go hx e (.inl ha)
 ·obtain ⟨p,us,rfl,ha,hx,_⟩:=EA l1 h1;exact go hx e (.inr ha)
 ·cases e
theorem LX:bootBuiltins "sorted" = some (.builtin "sorted"):=by decide +kernel
def tb:Tb where
 bins:=[
  ⟨.Add,BA,fun X h=>⟨_,VZ X.K,ZJ⟩⟩,
  ⟨.Sub,Mq,fun X h=>⟨_,Zb,VH⟩⟩,
  ⟨.Mult,CO,fun X h=>⟨_,Zf.or Zc,ZC⟩⟩,
  ⟨.Mod,Ck,fun X h=>⟨_,Zg,JE fun _ _ h=>of_decide_eq_true h⟩⟩,
  ⟨.FloorDiv,Tv,fun X h=>⟨_,VW,JE fun _ _ h=>by rw [Bool.and_eq_true,decide_eq_true_eq,decide_eq_true_eq] at h;exact h⟩⟩,
  ⟨.Pow,bN,fun X h=>⟨_,Ze,JE fun _ _ h=>by rw [Bool.and_eq_true,Bool.and_eq_true,decide_eq_true_eq,decide_eq_true_eq,decide_eq_true_eq] at h;exact ⟨h.1.1,h.1.2,h.2⟩⟩⟩]
 cmps:=[
  ⟨.Eq,Lb,fun X h=>⟨_,L3.op_eqA h.2.choose_spec,RS⟩⟩,
  ⟨.NotEq,Wu,fun X h=>⟨_,L3.op_neA h.2.choose_spec,RS⟩⟩,
  ⟨.Lt,ek,fun X h=>⟨_,dP,JF⟩⟩,
  ⟨.LtE,gp,fun X h=>⟨_,Q.op_leAQ,dF⟩⟩,
  ⟨.Gt,fA,fun X h=>⟨_,dR,JF⟩⟩,
  ⟨.GtE,gq,fun X h=>⟨_,dS,JF⟩⟩,
  ⟨.In,iR,fun X h=>⟨_,Q.op_inQ h.2.choose_spec,RQ⟩⟩,
  ⟨.NotIn,bG,fun X h=>⟨_,Q.op_notInQ h.2.choose_spec,RQ⟩⟩,
  ⟨.Is,HE,fun X h=>⟨_,Zi,ZF⟩⟩,
  ⟨.IsNot,LZ,fun X h=>⟨_,VV,VA⟩⟩]
 calls:=[
  ⟨"len", 1,1,one Bx,fun X h=>⟨_,ZD,.inl ⟨_,PV X.K,PySem.boot_len⟩⟩⟩,
  ⟨"tuple", 1,1,one AK,fun X h=>⟨_,RO,.inr ⟨_,LQ X.K,PyProof.Rows.Boot.«tuple»⟩⟩⟩,
  ⟨"list", 1,1,one HK,fun X h=>⟨_,VE,.inr ⟨_,Mk X.K,PyProof.Rows.Boot.«list»⟩⟩⟩,
  ⟨"int", 1,1,one Tu,fun X h=>⟨_,VG,.inr ⟨_,PZ,PyProof.Rows.Boot.«int»⟩⟩⟩,
  ⟨"str", 1,1,one Tr,fun X h=>⟨_,Uy,.inr ⟨_,Ji,PyProof.Rows.Boot.«str»⟩⟩⟩,
  ⟨"all", 1,1,one Ms,fun X h=>⟨_,ZI,.inl ⟨_,Pc X.K rfl h.1,PyProof.Rows.Boot.«all»⟩⟩⟩,
  ⟨"any", 1,1,one bQ,fun X h=>⟨_,ZH,.inl ⟨_,Q.call_anyK h.1,PyProof.Rows.Boot.«any»⟩⟩⟩,
  ⟨"sum", 1,1,one bM,fun X h=>⟨_,Yz,.inl ⟨_,Q.call_sumQ h.1,PyProof.Rows.Boot.«sum»⟩⟩⟩,
  ⟨"max", 1,1,one Tt,fun X h=>⟨_,VC,.inl ⟨_,PR X.K rfl h.1,PyProof.Rows.Boot.«max»⟩⟩⟩,
  ⟨"max", 2,1,two Ih,fun X h=>⟨_,VD,.inl ⟨_,PU h.1,PyProof.Rows.Boot.«max»⟩⟩⟩,
  ⟨"min", 2,1,two Ig,fun X h=>⟨_,VB,.inl ⟨_,PQ h.1,PyProof.Rows.Boot.«min»⟩⟩⟩,
  ⟨"sorted", 1,1,one DG,fun X h=>⟨_,OY,.inl ⟨_,Jj X.K,LX⟩⟩⟩,
  ⟨"isinstance", 2,1,two Le,fun X h=>⟨_,ZE,.inl ⟨_,PY X.K,PyProof.Rows.Boot.«isinstance»⟩⟩⟩]
 meths:=[
  ⟨"join", 1, "str", 1,two HL,.inl (.inr (.inl rfl)),fun X h=>⟨_,_,PySem.F.plainAttrs_str,PySem.F.slot_str_join,PySem.F.type_str_join,Rt X.K,VF⟩⟩,
  ⟨"upper", 0, "str", 1,one FQ,.inl (.inr (.inl rfl)),fun X h=>⟨_,_,PySem.F.plainAttrs_str,PySem.F.slot_str_upper,PySem.F.type_str_upper,Rq,RN⟩⟩,
  ⟨"index", 1, "list", 1,two Jv,.inl (.inl rfl),fun X h=>⟨_,_,PySem.F.plainAttrs_list,PySem.F.slot_list_index,PySem.F.type_list_index,Q.mt_indexD h.2.choose_spec,RP⟩⟩,
  ⟨"index", 1, "tuple", 1,two Dr,.inr ⟨rfl,rfl⟩,fun X h=>⟨_,_,PySem.F.plainAttrs_tuple,PySem.F.slot_tuple_index,PySem.F.type_tuple_index,Q.mt_indexTD h.2.choose_spec,OZ⟩⟩]
 muts:=[
  ⟨"append", 1, "list", Ao,.inl rfl,fun X h=>⟨_,_,PySem.F.plainAttrs_list,PySem.F.slot_list_append,PySem.F.type_list_append,Os,Oo⟩⟩,
  ⟨"pop", 0, "list", bO,.inl rfl,fun X h=>⟨_,_,PySem.F.plainAttrs_list,PySem.F.slot_list_pop,PySem.F.type_list_pop,Zq,Zo⟩⟩,
  ⟨"clear", 0, "list", Mr,.inl rfl,fun X h=>⟨_,_,PySem.F.plainAttrs_list,PySem.F.slot_list_clear,PySem.F.type_list_clear,Ru,Rp⟩⟩,
  ⟨"pop", 1, "list", EJ,.inl rfl,fun X h=>⟨_,_,PySem.F.plainAttrs_list,PySem.F.slot_list_pop,PySem.F.type_list_pop,Rr,Ro⟩⟩,
  ⟨"extend", 1, "list", DH,.inl rfl,fun X h=>⟨_,_,PySem.F.plainAttrs_list,PySem.F.slot_list_extend,PySem.F.type_list_extend,Oq,On⟩⟩]
 srcs:=[
  ⟨"range", 1,false,BM,fun X h=>⟨_,Qm,fun tg es p pos ta _ hn hs hg hm ha=>match es,hn,hs,ha with | [a],_,hs,ha=>Of hg hm ha (AF (by simpa using hs))⟩⟩,
  ⟨"range", 2,false,OU,fun X h=>⟨_,Ql,fun tg es p pos ta _ hn hs hg hm ha=>match es,hn,hs,ha with
   | [a,b],_,hs,ha=>have z:Ae a=true/\Ae b=true:=by simpa using hs
    Oe hg hm ha ((AF z.1).trans (by rw [AF z.2];rfl)) (AF z.2)⟩⟩,
  ⟨"range", 3,false,Yn,fun X h=>⟨_,Qk,fun tg es p pos ta _ hn hs hg hm ha=>match es,hn,hs,ha with
   | [a,b,c],_,hs,ha=>have z:Ae a=true/\Ae b=true/\Ae c=true:=by simpa using hs
    have s3:starEach [c] X.env=[(false,eval c X.env)]:=AF z.2.2;have s2:starEach [b,c] X.env=[(false,eval b X.env),(false,eval c X.env)]:=(AF z.2.1).trans (by rw [s3])
    Od hg hm ha ((AF z.1).trans (by rw [s2])) s2⟩⟩,
  ⟨"zip", 2,true,IB,fun X h=>⟨_,Qj,fun tg es p pos ta ht hn hs hg hm ha=>match tg,ht rfl,es,hn,hs,ha with
   | .Tuple elts x1 tpos,_,[a,b],_,hs,ha=>have z:Ae a=true/\Ae b=true:=by simpa using hs
    VM X.K hg hm ha rfl (AF z.1) (BG (by simp [z.2]))⟩⟩,
  ⟨"zip", 3,true,GT,fun X h=>⟨_,Qi,fun tg es p pos ta ht hn hs hg hm ha=>match tg,ht rfl,es,hn,hs,ha with
   | .Tuple elts x1 tpos,_,[a,b,c],_,hs,ha=>have z:Ae a=true/\Ae b=true/\Ae c=true:=by simpa using hs
    VL X.K hg hm ha rfl (AF z.1) (BG (by simp [z.2.1,z.2.2]))⟩⟩,
  ⟨"enumerate", 1,true,NP,fun X h=>⟨_,Qn,fun tg es p pos ta ht hn hs hg hm ha=>match tg,ht rfl,es,hn,hs,ha with
   | .Tuple elts x1 tpos,_,[a],_,hs,ha=>RZ X.K hg hm ha rfl (AF (by simpa using hs))⟩⟩,
  ⟨"reversed", 1,false,cQ,fun X h=>⟨_,UX,fun tg es p pos ta _ hn hs hg hm ha=>match es,hn,hs,ha with | [a],_,hs,ha=>ZL X.K hg hm ha rfl (AF (by simpa using hs))⟩⟩]
 ix:=AB
 ixok:=fun X h=>⟨_,gR X.K,ZG⟩
 sl:=Pl
 slok:=fun X h=>⟨_,gL X.K,dE⟩
 tru:=Hf
 trok:=US
 lr:=BU
 lrok:=fun X h=>MB
 rv:=Ts
 rvok:=fun X h=>Uz
 lv:=HJ
 lvok:=fun X h=>MC
 st:=BD
 stok:=fun X h=>⟨_,Ui,Yd⟩
end R
namespace My
open PySem L2 R
noncomputable def top (i:Nat):Stmt:=PySem.Challenge.pw_shapefree_k60_like_worlds.main.body.getD i (.Pass ⟨0,0,0,0⟩)
def md:Md:=⟨tb,[],["len", "range", "tuple", "list", "zip", "isinstance", "enumerate", "all", "any", "int", "bool", "str", "sum", "max", "min", "reversed", "sorted", "dict", "repr", "set", "abs", "type", "ord", "chr"]⟩
noncomputable def ff:List (Str×Sig):=[]
noncomputable def CD (x1:Dv) (x4:Dv):Option Dv:=
(BA x1 (Dv.tup [x4])).bind fun d5 =>
some d5
noncomputable def CF (a1:Dv) (x1:Dv) (t2:Dv):Option (Dv):=
Gq "list" t2 (
(BM [a1]).bind fun s3 =>
En s3 ((BO (CD x1) s3).bind fun y6 =>
(DH t2 [(Dv.lst y6)]).bind fun r7 =>
some r7.2))
noncomputable def BN (a0 a1:Dv):Option (Dv):=
(items a0).bind fun s0 =>
(BI (CF a1) s0 (Dv.lst [])).bind fun t8 =>
some t8
theorem Hc:FY md ff (top 1) [] 1=true:=by kernel_rfl
theorem Hb:∀ ds,ds.length=(AA (top 1)).length->Bv md ff (top 1) [] 1 ds=two BN ds:=Wo (by kernel_rfl) fun _ _=>(by kernel_rfl)
def fc:List (Str×Sig):=("longer_by_one", Aj (AA (top 1)) [] 1 false (two BN))::ff
noncomputable def Ca (a1:Dv) (a2:Dv) (a3:Dv):Option (Dv):=
(Bx a3).bind fun d1 =>
(gq a1 d1).bind fun b2 =>
YA (Dv.bl b2) fun b3 =>
if b3=true then
some (Dv.bl true)
else
(AB a3 a1).bind fun d4 =>
(Lb d4 a2).bind fun b5 =>
some (Dv.bl b5)
noncomputable def BE (self:Dv->Dv->Dv->Dv->Option (Dv)) (a0:Dv) (a1:Dv) (a2:Dv) (a3:Dv) (x8:Dv):Option Dv:=
(Pq [5,6] x8).bind fun (t9:Dv×Dv) =>
(Mq a0 (Dv.int 1)).bind fun d10 =>
(AB a1 t9.1).bind fun d11 =>
(AB a2 t9.2).bind fun d12 =>
(self d10 d11 d12 a3).bind fun c13 =>
bif UH c13 then
some c13
else none
noncomputable def AH:Nat->Dv->Dv->Dv->Dv->Option (Dv)
 | 0,_,_,_,_=>none
 | n+1,a0,a1,a2,a3=>(
(Lb a0 (Dv.int 0)).bind fun b0 =>
if b0=true then
((Ca a1 a2 a3)).bind fun t6 =>
some t6
else
(NP [a3]).bind fun s7 =>
En s7 ((BO (BE (AH n) a0 a1 a2 a3) s7).bind fun y14 =>
(Ms (Dv.lst y14)).bind fun d15 =>
some d15))
theorem Jd (n:Nat):FY md (("table_leads", Aj (AA (top 4)) [] 0 true (Gv (AH n)))::fc) (top 4) [] 0=true:=by kernel_rfl
theorem JX (n:Nat):∀ ds,ds.length=(AA (top 4)).length->Bv md (("table_leads", Aj (AA (top 4)) [] 0 true (Gv (AH n)))::fc) (top 4) [] 0 ds=Gv (AH (n+1)) ds:=gm (by kernel_rfl) fun _ _ _ _=>(by kernel_rfl)
def fZ:List (Str×Sig):=("table_leads", Aj (AA (top 4)) [] 0 true (Gv (AH 200)))::fc
noncomputable def CZ (a3:Dv) (t5_1:Dv) (t5_2:Dv):Option (Bool):=
(Bx a3).bind fun d6 =>
(ek t5_1 d6).bind fun b7 =>
if b7=true then
(AB a3 t5_1).bind fun d8 =>
(Wu d8 t5_2).bind fun b9 =>
some b9
else
some false
noncomputable def Ce (a3:Dv) (x3:Dv) (t4:Unit):Option (Lp Dv (Unit) (Unit)):=
(Pq [4,5] x3).bind fun (t5:Dv×Dv) =>
((CZ a3 t5.1 t5.2)).bind fun t10 =>
if t10=true then
some (.rt (Dv.bl false) ())
else
some (.go ())
noncomputable def Cd (a3:Dv) (x18:Dv) (t19:Unit):Option (Lp Dv (Unit) (Unit)):=
(Pq [6,4,5] x18).bind fun (t20:Dv×Dv×Dv) =>
(AB t20.1 (Dv.int 1)).bind fun d21 =>
(AH 200 d21 t20.2.1 t20.2.2 a3).bind fun c22 =>
bif UH c22 then
(Hf c22).bind fun b23 =>
if (!b23)=true then
some (.rt (Dv.bl false) ())
else
some (.go ())
else none
noncomputable def Bj (a0 a1 a2 a3:Dv):Option (Dv):=
(AB a1 (Dv.int 1)).bind fun d0 =>
(AB a2 (Dv.int 1)).bind fun d1 =>
(IB [d0,d1]).bind fun s2 =>
(Bp (Ce a3) s2 ()).bind fun l28=>l28.el (fun (t11:Unit) =>
(AB a0 (Dv.int 1)).bind fun d14 =>
(AB a1 (Dv.int 2)).bind fun d15 =>
(AB a2 (Dv.int 2)).bind fun d16 =>
(GT [d14,d15,d16]).bind fun s17 =>
(Bp (Cd a3) s17 ()).bind fun l27=>l27.el (fun (t24:Unit) =>
some (Dv.bl true)) fun (e25:Dv) (r26:Unit) =>
some e25) fun (e12:Dv) (r13:Unit) =>
some e12
theorem Je:FY md fZ (top 3) [] 1=true:=by kernel_rfl
theorem JY:∀ ds,ds.length=(AA (top 3)).length->Bv md fZ (top 3) [] 1 ds=Gv Bj ds:=gm (by kernel_rfl) fun _ _ _ _=>(by kernel_rfl)
def fY:List (Str×Sig):=("leads_alike", Aj (AA (top 3)) [] 1 true (Gv Bj))::fZ
noncomputable def GP (a0:Dv) (a1:Dv) (a2:Dv) (x7:Dv):Option (Option Dv):=
(Bj a0 a1 a2 x7).bind fun c8 =>
bif UH c8 then
(Hf c8).bind fun b9 =>
if b9=true then
some (some x7)
else some none
else none
noncomputable def GR (a0:Dv) (a1:Dv) (a2:Dv) (x2:Dv) (t3:Dv):Option (Dv):=
(AB a2 (Dv.int 0)).bind fun d4 =>
(BN t3 d4).bind fun c5 =>
(items c5).bind fun s6 =>
En s6 ((Ot (GP a0 a1 a2) s6).bind fun y10 =>
some (Dv.lst y10))
noncomputable def GU (a0 a1 a2:Dv):Option (Dv):=
(AB a1 (Dv.int 0)).bind fun d0 =>
(BM [d0]).bind fun s1 =>
(BI (GR a0 a1 a2) s1 (Dv.lst [(Dv.tup [])])).bind fun t11 =>
some t11
theorem WM:FY md fY (top 5) [] 1=true:=by kernel_rfl
theorem WG:∀ ds,ds.length=(AA (top 5)).length->Bv md fY (top 5) [] 1 ds=Ep GU ds:=bZ (by kernel_rfl) fun _ _ _=>(by kernel_rfl)
def fX:List (Str×Sig):=("moves", Aj (AA (top 5)) [] 1 false (Ep GU))::fY
noncomputable def Iw (a2:Dv) (x2:Dv) (t3:Unit):Option (Lp Dv (Unit) (Unit)):=
(DG x2).bind fun d4 =>
(AB a2 (Dv.int 0)).bind fun d5 =>
(BU [d5]).bind fun d6 =>
(Lb d4 d6).bind fun b7 =>
if b7=true then
some (.rt x2 ())
else
some (.go ())
noncomputable def FU (a0 a1 a2:Dv):Option (Dv):=
(GU a0 a1 a2).bind fun c0 =>
(items c0).bind fun s1 =>
(Bp (Iw a2) s1 ()).bind fun l11=>l11.el (fun (t8:Unit) =>
some Dv.non) fun (e9:Dv) (r10:Unit) =>
some e9
theorem aW:FY md fX (top 6) [] 0=true:=by kernel_rfl
theorem aS:∀ ds,ds.length=(AA (top 6)).length->Bv md fX (top 6) [] 0 ds=Ep FU ds:=bZ (by kernel_rfl) fun _ _ _=>(by kernel_rfl)
def fW:List (Str×Sig):=("like", Aj (AA (top 6)) [] 0 false (Ep FU))::fX
noncomputable def KN (a0:Dv) (a1:Dv) (d1:Dv):Option (Dv):=
(Bx a0).bind fun d5 =>
(fA d5 (Dv.int 0)).bind fun b6 =>
if b6=true then
(Bx a0).bind fun d7 =>
(Ck a1 d7).bind fun d8 =>
(AB a0 d8).bind fun d9 =>
(Ck d9 (Dv.int 2147483629)).bind fun d10 =>
(CO d10 (Dv.int 31)).bind fun d11 =>
(CO (Dv.int 7907) a1).bind fun d12 =>
(BA d11 d12).bind fun d13 =>
some d13
else
some d1
noncomputable def GM (a0:Dv) (a1:Dv) (d1:Dv):Option (Dv):=
(Bx a0).bind fun d2 =>
(ek a1 d2).bind fun b3 =>
if b3=true then
(AB a0 a1).bind fun d4 =>
some d4
else
((KN a0 a1 d1)).bind fun t14 =>
some t14
noncomputable def GL (t15:Dv):Option (Dv):=
(bN (Dv.int 10) (Dv.int 18)).bind fun d16 =>
(gq t15 d16).bind fun b17 =>
if b17=true then
some t15
else
some (Dv.int 0)
noncomputable def GW (a0 a1:Dv):Option (Dv):=
(CO (Dv.int 7907) a1).bind fun d0 =>
(BA d0 (Dv.int 13579)).bind fun d1 =>
((GM a0 a1 d1)).bind fun t15 =>
((GL t15)).bind fun t18 =>
(Ck t15 (Dv.int 2147483629)).bind fun d19 =>
(CO d19 (Dv.int 48271)).bind fun d20 =>
(CO (Dv.int 40692) a1).bind fun d21 =>
(BA d20 d21).bind fun d22 =>
(Ck d22 (Dv.int 2147483646)).bind fun d23 =>
(BA d23 (Dv.int 1)).bind fun d24 =>
some (Dv.lst [t18,d24])
theorem WR:FY md fW (top 8) [] 1=true:=by kernel_rfl
theorem WK:∀ ds,ds.length=(AA (top 8)).length->Bv md fW (top 8) [] 1 ds=two GW ds:=Wo (by kernel_rfl) fun _ _=>(by kernel_rfl)
def fV:List (Str×Sig):=("_law_feed", Aj (AA (top 8)) [] 1 false (two GW))::fW
noncomputable def AS (a0 a1:Dv):Option (Dv×Dv):=
(AB a0 (Dv.int 0)).bind fun d0 =>
(fA d0 (Dv.int 0)).bind fun b1 =>
if b1=true then
(AB a0 (Dv.int 0)).bind fun d2 =>
(Ck d2 a1).bind fun d3 =>
(AB a0 (Dv.int 0)).bind fun d4 =>
(Tv d4 a1).bind fun d5 =>
(BD a0 (Dv.int 0) d5).bind fun d6 =>
some (d3,d6)
else
(AB a0 (Dv.int 1)).bind fun d7 =>
(CO d7 (Dv.int 48271)).bind fun d8 =>
(Ck d8 (Dv.int 2147483647)).bind fun d9 =>
(CO d9 (Dv.int 40692)).bind fun d10 =>
(BA d10 (Dv.int 30103)).bind fun d11 =>
(Ck d11 (Dv.int 2147483399)).bind fun d12 =>
(BA d12 (Dv.int 1)).bind fun d13 =>
(BD a0 (Dv.int 1) d13).bind fun d14 =>
(CO d9 (Dv.int 2147483647)).bind fun d15 =>
(AB d14 (Dv.int 1)).bind fun d16 =>
(BA d15 d16).bind fun d17 =>
(Tv d17 (Dv.int 8191)).bind fun d18 =>
(Ck d18 a1).bind fun d19 =>
some (d19,d14)
theorem WN:FY md fV (top 9) [0] 1=true:=by kernel_rfl
theorem WH:∀ ds,ds.length=(AA (top 9)).length->Bv md fV (top 9) [0] 1 ds=two AS ds:=Wo (by kernel_rfl) fun _ _=>(by kernel_rfl)
def fU:List (Str×Sig):=("_law_take", Aj (AA (top 9)) [0] 1 false (two AS))::fV
noncomputable def De (x2:Dv) (t3:Dv):Option (Dv×Dv):=
(AS t3 (Dv.int 26)).bind fun c4 =>
(AB (Dv.str [97,98,99,100,101,102,103,104,105,106,107,108,109,110,111,112,113,114,115,116,117,118,119,120,121,122]) c4.1).bind fun d5 =>
some (d5,c4.2)
noncomputable def Ez (d28:Dv):Option (Dv):=
(iR d28 (Dv.tup [(Dv.str [100,101,102]),(Dv.str [108,101,116]),(Dv.str [116,101,108,108]),(Dv.str [108,111,111,112]),(Dv.str [112,105,99,107]),(Dv.str [99,97,108,108])])).bind fun b29 =>
if b29=true then
(BA d28 (Dv.str [113])).bind fun d30 =>
some d30
else
some d28
noncomputable def FD (d7:Dv) (c8_1:Dv) (c11_1:Dv) (c12_1:Dv) (x14:Dv) (t15:Dv):Option (Dv):=
(CO (Dv.int 7) x14).bind fun d16 =>
(BA c8_1 d16).bind fun d17 =>
(Ck d17 (Dv.int 26)).bind fun d18 =>
(AB (Dv.str [97,98,99,100,101,102,103,104,105,106,107,108,109,110,111,112,113,114,115,116,117,118,119,120,121,122]) d18).bind fun d19 =>
ba c11_1 fun i20 =>
(Pl d7 none (some i20)).bind fun d21 =>
(BA d21 d19).bind fun d22 =>
ba c11_1 fun i23 =>
(BA c12_1 x14).bind fun d24 =>
(Ck d24 (Dv.int 4)).bind fun d25 =>
ba d25 fun i26 =>
(Pl d7 (some i23) (some i26)).bind fun d27 =>
(BA d22 d27).bind fun d28 =>
((Ez d28)).bind fun t31 =>
Gq "list" t15 (
(Ao t15 [t31]).bind fun r32 =>
some r32.2)
noncomputable def Hw (c12_2:Dv) (t33:Dv):Option (Bool×Dv):=
(Ld (Dv.int 2)).bind fun d35 =>
(AB t33 d35).bind fun d36 =>
(Bx d36).bind fun d37 =>
(ek d37 (Dv.int 4)).bind fun b38 =>
if b38=true then
(AS c12_2 (Dv.int 4)).bind fun c39 =>
(Lb c39.1 (Dv.int 0)).bind fun b40 =>
some (b40,c39.2)
else
some (false,c12_2)
noncomputable def Eu (a1:Dv) (c12_2:Dv) (t33:Dv):Option (Bool×Dv):=
(fA a1 (Dv.int 1)).bind fun b34 =>
if b34=true then
((Hw c12_2 t33)).bind fun t41 =>
some (t41.1,t41.2)
else
some (false,c12_2)
noncomputable def Ey (a1:Dv) (c12_2:Dv) (t33:Dv):Option (Dv×Dv):=
((Eu a1 c12_2 t33)).bind fun t42 =>
if t42.1=true then
(Ld (Dv.int 2)).bind fun d43 =>
(AB t33 d43).bind fun d44 =>
(BA d44 (Dv.str [113])).bind fun d45 =>
(Ld (Dv.int 1)).bind fun d46 =>
(BD t33 d46 d45).bind fun d47 =>
some (t42.2,d47)
else
some (t42.2,t33)
noncomputable def CU (a0 a1:Dv):Option (Dv×Dv):=
Gq "str" (Dv.str []) (
(AS a0 (Dv.int 4)).bind fun c0 =>
(BM [c0.1]).bind fun s1 =>
En s1 ((CV De s1 c0.2).bind fun p6 =>
(HL (Dv.str []) (Dv.lst p6.1)).bind fun d7 =>
(AS p6.2 (Dv.int 26)).bind fun c8 =>
(Bx d7).bind fun d9 =>
(BA d9 (Dv.int 1)).bind fun d10 =>
(AS c8.2 d10).bind fun c11 =>
(AS c11.2 (Dv.int 4)).bind fun c12 =>
(BM [a1]).bind fun s13 =>
(BI (FD d7 c8.1 c11.1 c12.1) s13 (Dv.lst [])).bind fun t33 =>
((Ey a1 c12.2 t33)).bind fun t48 =>
some (t48.2,t48.1)))
theorem So:FY md fU (top 10) [0] 1=true:=by kernel_rfl
theorem Sf:∀ ds,ds.length=(AA (top 10)).length->Bv md fU (top 10) [0] 1 ds=two CU ds:=Wo (by kernel_rfl) fun _ _=>(by kernel_rfl)
def fT:List (Str×Sig):=("_law_names", Aj (AA (top 10)) [0] 1 false (two CU))::fU
noncomputable def FC (x5:Dv):Option Dv:=
(Pl x5 none (some 1)).bind fun d6 =>
Gq "str" d6 (
(FQ d6).bind fun d7 =>
(Pl x5 (some 1) none).bind fun d8 =>
(BA d7 d8).bind fun d9 =>
some d9)
noncomputable def FB (c11_1:Dv) (x15:Dv) (t16:Dv):Option (Dv×Dv):=
(AB c11_1 x15).bind fun d17 =>
(AS t16 (Dv.int 2)).bind fun c18 =>
(BA (Dv.int 1) c18.1).bind fun d19 =>
some ((Dv.tup [d17,d19]),c18.2)
noncomputable def EU (a0:Dv):Option (Dv×Dv):=
(CU a0 (Dv.int 4)).bind fun c0 =>
(AS c0.2 (Dv.int 4)).bind fun c1 =>
ba c1.1 fun i2 =>
(Pl c0.1 none (some i2)).bind fun d3 =>
(items d3).bind fun s4 =>
En s4 ((BO FC s4).bind fun y10 =>
(CU c1.2 (Dv.int 3)).bind fun c11 =>
(AS c11.2 (Dv.int 8)).bind fun c12 =>
(AB (Dv.lst [(Dv.int 1),(Dv.int 2),(Dv.int 3),(Dv.int 2),(Dv.int 3),(Dv.int 1),(Dv.int 2),(Dv.int 0)]) c12.1).bind fun d13 =>
(BM [d13]).bind fun s14 =>
En s14 ((CV (FB c11.1) s14 c12.2).bind fun p20 =>
(AK (Dv.lst y10)).bind fun d21 =>
(AK (Dv.lst p20.1)).bind fun d22 =>
some ((Dv.tup [d21,d22]),p20.2)))
theorem Sm:FY md fT (top 11) [0] 1=true:=by kernel_rfl
theorem Sd:∀ ds,ds.length=(AA (top 11)).length->Bv md fT (top 11) [0] 1 ds=one EU ds:=iQ (by kernel_rfl) fun _=>(by kernel_rfl)
def fS:List (Str×Sig):=("_law_shape", Aj (AA (top 11)) [0] 1 false (one EU))::fT
noncomputable def IA (a2:Dv) (x2:Dv) (t3:Dv):Option (Dv×Dv):=
(AS t3 a2).bind fun c4 =>
some (c4.1,c4.2)
noncomputable def Hz (a2:Dv) (x14:Dv) (t15:Dv):Option (Dv×Dv):=
(AS t15 a2).bind fun c16 =>
some (c16.1,c16.2)
noncomputable def Hy (a2:Dv) (x24:Dv) (t25:Dv):Option (Dv×Dv):=
(AS t25 a2).bind fun c26 =>
some (c26.1,c26.2)
noncomputable def FA (a2:Dv) (x21:Dv) (t22:Dv):Option (Dv×Dv):=
(BM [a2]).bind fun s23 =>
En s23 ((CV (Hy a2) s23 t22).bind fun p27 =>
(AK (Dv.lst p27.1)).bind fun d28 =>
some (d28,p27.2))
noncomputable def Ex (a2:Dv) (t10_1:Dv) (t10_2:Dv) (t11_2:Dv):Option (Dv×Dv):=
(Lb t11_2 (Dv.int 1)).bind fun b12 =>
if b12=true then
Gq "list" t10_2 (
(BM [a2]).bind fun s13 =>
En s13 ((CV (Hz a2) s13 t10_1).bind fun p17 =>
(AK (Dv.lst p17.1)).bind fun d18 =>
(Ao t10_2 [d18]).bind fun r19 =>
some (p17.2,r19.2)))
else
Gq "list" t10_2 (
(BM [a2]).bind fun s20 =>
En s20 ((CV (FA a2) s20 t10_1).bind fun p29 =>
(AK (Dv.lst p29.1)).bind fun d30 =>
(Ao t10_2 [d30]).bind fun r31 =>
some (p29.2,r31.2)))
noncomputable def Df (a2:Dv) (x9:Dv) (t10:Dv×Dv):Option (Dv×Dv):=
(Pq [5,6] x9).bind fun (t11:Dv×Dv) =>
((Ex a2 t10.1 t10.2 t11.2)).bind fun t32 =>
some (t32.1,t32.2)
noncomputable def Cz (a0 a1 a2:Dv):Option (Dv×Dv):=
(AB a1 (Dv.int 0)).bind fun d0 =>
(items d0).bind fun s1 =>
En s1 ((CV (IA a2) s1 a0).bind fun p5 =>
(AK (Dv.lst p5.1)).bind fun d6 =>
(AB a1 (Dv.int 1)).bind fun d7 =>
(items d7).bind fun s8 =>
(BI (Df a2) s8 (p5.2,(Dv.lst []))).bind fun t33 =>
(AK t33.2).bind fun d34 =>
some ((Dv.tup [a2,d6,d34]),t33.1))
theorem Sl:FY md fS (top 12) [0] 1=true:=by kernel_rfl
theorem Sb:∀ ds,ds.length=(AA (top 12)).length->Bv md fS (top 12) [0] 1 ds=Ep Cz ds:=bZ (by kernel_rfl) fun _ _ _=>(by kernel_rfl)
def WB:List (Str×Sig):=("_law_world", Aj (AA (top 12)) [0] 1 false (Ep Cz))::fS
noncomputable def Cq (a3:Dv) (x2:Dv):Option Dv:=
(AB a3 x2).bind fun d3 =>
some d3
noncomputable def BX (a3:Dv) (t14_1:Dv) (t14_2_1:Dv) (t14_2_2:Dv) (x17:Dv):Option (Bool):=
(AB t14_1 (Dv.int 1)).bind fun d19 =>
(Lb d19 (Dv.int 1)).bind fun b20 =>
if b20=true then
(AB t14_2_1 x17).bind fun d21 =>
(AB a3 d21).bind fun d22 =>
(AB a3 x17).bind fun d23 =>
(AB t14_2_2 d23).bind fun d24 =>
(Wu d22 d24).bind fun b25 =>
some b25
else
some false
noncomputable def Dg (a3:Dv) (t14_2_1:Dv) (t14_2_2:Dv) (x17:Dv) (x32:Dv) (t33:Unit):Option (Lp Dv (Unit) (Unit)):=
(AB t14_2_1 x17).bind fun d34 =>
(AB d34 x32).bind fun d35 =>
(AB a3 d35).bind fun d36 =>
(AB a3 x17).bind fun d37 =>
(AB t14_2_2 d37).bind fun d38 =>
(AB a3 x32).bind fun d39 =>
(AB d38 d39).bind fun d40 =>
(Wu d36 d40).bind fun b41 =>
if b41=true then
some (.rt (Dv.bl false) ())
else
some (.go ())
noncomputable def Au (a1:Dv) (a3:Dv) (t14_1:Dv) (t14_2_1:Dv) (t14_2_2:Dv) (x17:Dv) (t18:Unit):Option (Lp Dv (Unit) (Unit)):=
((BX a3 t14_1 t14_2_1 t14_2_2 x17)).bind fun t26 =>
if t26=true then
some (.rt (Dv.bl false) ())
else
(AB a1 (Dv.int 0)).bind fun d27 =>
(AB t14_1 (Dv.int 1)).bind fun d28 =>
(Mq d28 (Dv.int 1)).bind fun d29 =>
(CO d27 d29).bind fun d30 =>
(BM [d30]).bind fun s31 =>
(Bp (Dg a3 t14_2_1 t14_2_2 x17) s31 ()).bind fun l45=>l45.el (fun (t42:Unit) =>
some (.go ())) fun (e43:Dv) (r44:Unit) =>
some (.rt e43 ())
noncomputable def FE (a1:Dv) (a3:Dv) (x12:Dv) (t13:Unit):Option (Lp Dv (Unit) (Unit)):=
(Pq [4,5,6] x12).bind fun (t14:Dv×Dv×Dv) =>
(AB a1 (Dv.int 0)).bind fun d15 =>
(BM [d15]).bind fun s16 =>
(Bp (Au a1 a3 t14.1 t14.2.1 t14.2.2) s16 ()).bind fun l49=>l49.el (fun (t46:Unit) =>
some (.go ())) fun (e47:Dv) (r48:Unit) =>
some (.rt e47 ())
noncomputable def DA (a0 a1 a2 a3:Dv):Option (Dv):=
(AB a1 (Dv.int 1)).bind fun d0 =>
(items d0).bind fun s1 =>
En s1 ((BO (Cq a3) s1).bind fun y4 =>
(AB a2 (Dv.int 1)).bind fun d5 =>
(HK d5).bind fun d6 =>
(Wu (Dv.lst y4) d6).bind fun b7 =>
if b7=true then
some (Dv.bl false)
else
(AB a0 (Dv.int 1)).bind fun d8 =>
(AB a1 (Dv.int 2)).bind fun d9 =>
(AB a2 (Dv.int 2)).bind fun d10 =>
(GT [d8,d9,d10]).bind fun s11 =>
(Bp (FE a1 a3) s11 ()).bind fun l53=>l53.el (fun (t50:Unit) =>
some (Dv.bl true)) fun (e51:Dv) (r52:Unit) =>
some e51)
theorem Sq:FY md WB (top 13) [] 1=true:=by kernel_rfl
theorem Sg:∀ ds,ds.length=(AA (top 13)).length->Bv md WB (top 13) [] 1 ds=Gv DA ds:=gm (by kernel_rfl) fun _ _ _ _=>(by kernel_rfl)
def WA:List (Str×Sig):=("_law_keeps", Aj (AA (top 13)) [] 1 true (Gv DA))::WB
noncomputable def ER (x1:Dv) (x4:Dv):Option Dv:=
some (Dv.tup [x1,x4])
noncomputable def Cy (a1:Dv) (x1:Dv) (t2:Dv):Option (Dv):=
Gq "list" t2 (
(BM [a1]).bind fun s3 =>
En s3 ((BO (ER x1) s3).bind fun y5 =>
(DH t2 [(Dv.lst y5)]).bind fun r6 =>
some r6.2))
noncomputable def CJ (a0 a1:Dv):Option (Dv):=
(items a0).bind fun s0 =>
(BI (Cy a1) s0 (Dv.lst [])).bind fun t7 =>
some t7
theorem LM:FY md WA (top 15) [] 1=true:=by kernel_rfl
theorem LG:∀ ds,ds.length=(AA (top 15)).length->Bv md WA (top 15) [] 1 ds=two CJ ds:=Wo (by kernel_rfl) fun _ _=>(by kernel_rfl)
def Vz:List (Str×Sig):=("_law_with_each", Aj (AA (top 15)) [] 1 false (two CJ))::WA
noncomputable def GQ (x5:Dv):Option Dv:=
(Pq [5,6] x5).bind fun (t6:Dv×Dv) =>
(BA t6.1 (Dv.tup [t6.2])).bind fun d7 =>
some d7
noncomputable def GS (a0:Dv) (x1:Dv) (t2:Dv):Option (Dv):=
(CJ t2 a0).bind fun c3 =>
(items c3).bind fun s4 =>
En s4 ((BO GQ s4).bind fun y8 =>
some (Dv.lst y8))
noncomputable def GV (a0 a1:Dv):Option (Dv):=
(BM [a1]).bind fun s0 =>
(BI (GS a0) s0 (Dv.lst [(Dv.tup [])])).bind fun t9 =>
some t9
theorem WO:FY md Vz (top 14) [] 1=true:=by kernel_rfl
theorem WI:∀ ds,ds.length=(AA (top 14)).length->Bv md Vz (top 14) [] 1 ds=two GV ds:=Wo (by kernel_rfl) fun _ _=>(by kernel_rfl)
def Vy:List (Str×Sig):=("_law_rows", Aj (AA (top 14)) [] 1 false (two GV))::Vz
noncomputable def Aa (t1:Dv×Dv×Dv):Option Bool:=
(Bx t1.2.1).bind fun d2 =>
(fA d2 (Dv.int 0)).bind fun b3 =>
some b3
noncomputable def Ab (t1:Dv×Dv×Dv):Option (Dv×Dv×Dv):=
Gq "list" t1.2.2 (
Gq "list" t1.2.1 (
(Bx t1.2.1).bind fun d4 =>
(AS t1.1 d4).bind fun c5 =>
(EJ t1.2.1 [c5.1]).bind fun r6 =>
(Ao t1.2.2 [r6.1]).bind fun r7 =>
some (c5.2,r6.2,r7.2)))
noncomputable def BZ (a0 a1:Dv):Option (Dv×Dv):=
(BU [a1]).bind fun d0 =>
(UO Aa Ab 1000000 (a0,d0,(Dv.lst []))).bind fun t8 =>
(AK t8.2.2).bind fun d9 =>
some (d9,t8.1)
theorem LN:FY md Vy (top 16) [0] 1=true:=by kernel_rfl
theorem LH:∀ ds,ds.length=(AA (top 16)).length->Bv md Vy (top 16) [0] 1 ds=two BZ ds:=Wo (by kernel_rfl) fun _ _=>(by kernel_rfl)
def Vx:List (Str×Sig):=("_law_shuffled", Aj (AA (top 16)) [0] 1 false (two BZ))::Vy
noncomputable def FT (a2:Dv) (x2:Dv):Option (Dv):=
Option.or (Gq "list" a2 (
(Jv a2 x2).bind fun d3 =>
some d3)) (Gq "tuple" a2 (
(Dr a2 x2).bind fun d4 =>
some d4))
noncomputable def DR (a2:Dv) (x2:Dv):Option Dv:=
((FT a2 x2)).bind fun t5 =>
some t5
noncomputable def DQ (a2:Dv) (y6:List Dv) (t12_2:Dv) (x16:Dv):Option Dv:=
(AB (Dv.lst y6) x16).bind fun d17 =>
(AB t12_2 d17).bind fun d18 =>
(AB a2 d18).bind fun d19 =>
some d19
noncomputable def DP (a2:Dv) (y6:List Dv) (t12_2:Dv) (x24:Dv) (x26:Dv):Option Dv:=
(AB (Dv.lst y6) x24).bind fun d27 =>
(AB t12_2 d27).bind fun d28 =>
(AB (Dv.lst y6) x26).bind fun d29 =>
(AB d28 d29).bind fun d30 =>
(AB a2 d30).bind fun d31 =>
some d31
noncomputable def CQ (a2:Dv) (d0:Dv) (y6:List Dv) (t12_2:Dv) (x24:Dv):Option Dv:=
(BM [d0]).bind fun s25 =>
En s25 ((BO (DP a2 y6 t12_2 x24) s25).bind fun y32 =>
(AK (Dv.lst y32)).bind fun d33 =>
some d33)
noncomputable def DN (a2:Dv) (d0:Dv) (y6:List Dv) (t11:Dv) (t12_1:Dv) (t12_2:Dv):Option (Dv):=
(AB t12_1 (Dv.int 1)).bind fun d13 =>
(Lb d13 (Dv.int 1)).bind fun b14 =>
if b14=true then
Gq "list" t11 (
(BM [d0]).bind fun s15 =>
En s15 ((BO (DQ a2 y6 t12_2) s15).bind fun y20 =>
(AK (Dv.lst y20)).bind fun d21 =>
(Ao t11 [d21]).bind fun r22 =>
some r22.2))
else
Gq "list" t11 (
(BM [d0]).bind fun s23 =>
En s23 ((BO (CQ a2 d0 y6 t12_2) s23).bind fun y34 =>
(AK (Dv.lst y34)).bind fun d35 =>
(Ao t11 [d35]).bind fun r36 =>
some r36.2))
noncomputable def Bi (a2:Dv) (d0:Dv) (y6:List Dv) (x10:Dv) (t11:Dv):Option (Dv):=
(Pq [6,7] x10).bind fun (t12:Dv×Dv) =>
((DN a2 d0 y6 t11 t12.1 t12.2)).bind fun t37 =>
some t37
noncomputable def CP (a2:Dv) (x41:Dv):Option Dv:=
(AB a2 x41).bind fun d42 =>
some d42
noncomputable def Cr (a0 a1 a2:Dv):Option (Dv):=
(AB a1 (Dv.int 0)).bind fun d0 =>
(BM [d0]).bind fun s1 =>
En s1 ((BO (DR a2) s1).bind fun y6 =>
(AB a0 (Dv.int 1)).bind fun d7 =>
(AB a1 (Dv.int 2)).bind fun d8 =>
(IB [d7,d8]).bind fun s9 =>
(BI (Bi a2 d0 y6) s9 (Dv.lst [])).bind fun t38 =>
(AB a1 (Dv.int 1)).bind fun d39 =>
(items d39).bind fun s40 =>
En s40 ((BO (CP a2) s40).bind fun y43 =>
(AK (Dv.lst y43)).bind fun d44 =>
(AK t38).bind fun d45 =>
some (Dv.tup [d0,d44,d45])))
theorem Mj:FY md Vx (top 17) [] 1=true:=by kernel_rfl
theorem Me:∀ ds,ds.length=(AA (top 17)).length->Bv md Vx (top 17) [] 1 ds=Ep Cr ds:=bZ (by kernel_rfl) fun _ _ _=>(by kernel_rfl)
def Vw:List (Str×Sig):=("_law_renamed", Aj (AA (top 17)) [] 1 false (Ep Cr))::Vx
noncomputable def ES (d2:Dv) (x17:Dv):Option Dv:=
(Ck x17 d2).bind fun d18 =>
some d18
noncomputable def GK (d2:Dv) (x10:Dv) (t11:Dv):Option (Dv):=
(AB t11 x10).bind fun d12 =>
(Le d12 (Dv.ty "tuple")).bind fun d13 =>
(Hf d13).bind fun b14 =>
if b14=true then
(AB t11 x10).bind fun d15 =>
(items d15).bind fun s16 =>
En s16 ((BO (ES d2) s16).bind fun y19 =>
(AK (Dv.lst y19)).bind fun d20 =>
(BD t11 x10 d20).bind fun d21 =>
some d21)
else
(AB t11 x10).bind fun d22 =>
(Ck d22 d2).bind fun d23 =>
(BD t11 x10 d23).bind fun d24 =>
some d24
noncomputable def BF (d2:Dv) (x10:Dv) (t11:Dv):Option (Dv):=
((GK d2 x10 t11)).bind fun t25 =>
some t25
noncomputable def CH (d2:Dv) (x5:Dv) (t6:Dv):Option (Dv):=
(HK x5).bind fun d7 =>
(Bx d7).bind fun d8 =>
(BM [d8]).bind fun s9 =>
(BI (BF d2) s9 d7).bind fun t26 =>
Gq "list" t6 (
(AK t26).bind fun d27 =>
(Ao t6 [d27]).bind fun r28 =>
some r28.2)
noncomputable def EC (a0 a1:Dv):Option (Dv×Dv):=
(AB a1 (Dv.int 0)).bind fun d0 =>
(AS a0 d0).bind fun c1 =>
(BA (Dv.int 1) c1.1).bind fun d2 =>
(AB a1 (Dv.int 2)).bind fun d3 =>
(items d3).bind fun s4 =>
(BI (CH d2) s4 (Dv.lst [])).bind fun t29 =>
(AB a1 (Dv.int 0)).bind fun d30 =>
(AB a1 (Dv.int 1)).bind fun d31 =>
(AK t29).bind fun d32 =>
some ((Dv.tup [d30,d31,d32]),c1.2)
theorem WQ:FY md Vw (top 18) [0] 1=true:=by kernel_rfl
theorem WJ:∀ ds,ds.length=(AA (top 18)).length->Bv md Vw (top 18) [0] 1 ds=two EC ds:=Wo (by kernel_rfl) fun _ _=>(by kernel_rfl)
def Vv:List (Str×Sig):=("_law_flat", Aj (AA (top 18)) [0] 1 false (two EC))::Vw
noncomputable def Cc (c2_1:Dv) (c2_2:Dv):Option (Dv×Dv):=
(AS c2_2 (Dv.int 2)).bind fun c3 =>
(Lb c3.1 (Dv.int 0)).bind fun b4 =>
if b4=true then
(EC c3.2 c2_1).bind fun c5 =>
some (c5.2,c5.1)
else
some (c3.2,c2_1)
noncomputable def Cb (c7_1:Dv) (c15_1:Dv) (c15_2:Dv):Option (Dv×Dv):=
(Lb c7_1 (Dv.int 3)).bind fun b16 =>
if b16=true then
(EC c15_2 c15_1).bind fun c17 =>
some (c17.2,c17.1)
else
some (c15_2,c15_1)
noncomputable def BJ (a0 a1:Dv):Option (Dv×Dv):=
(AS a0 (Dv.int 4)).bind fun c0 =>
(BA (Dv.int 1) c0.1).bind fun d1 =>
(Cz c0.2 a1 d1).bind fun c2 =>
((Cc c2.1 c2.2)).bind fun t6 =>
(AS t6.1 (Dv.int 5)).bind fun c7 =>
(Lb c7.1 (Dv.int 0)).bind fun b8 =>
if b8=true then
some ((Dv.tup [t6.2,t6.2]),c7.2)
else
(ek c7.1 (Dv.int 3)).bind fun b9 =>
if b9=true then
(AB t6.2 (Dv.int 0)).bind fun d10 =>
(BZ c7.2 d10).bind fun c11 =>
(Cr a1 t6.2 c11.1).bind fun c12 =>
some ((Dv.tup [t6.2,c12]),c11.2)
else
(AS c7.2 (Dv.int 4)).bind fun c13 =>
(BA (Dv.int 1) c13.1).bind fun d14 =>
(Cz c13.2 a1 d14).bind fun c15 =>
((Cb c7.1 c15.1 c15.2)).bind fun t18 =>
some ((Dv.tup [t6.2,t18.2]),t18.1)
theorem Jf:FY md Vv (top 19) [0] 1=true:=by kernel_rfl
theorem JZ:∀ ds,ds.length=(AA (top 19)).length->Bv md Vv (top 19) [0] 1 ds=two BJ ds:=Wo (by kernel_rfl) fun _ _=>(by kernel_rfl)
def Vu:List (Str×Sig):=("_law_two_worlds", Aj (AA (top 19)) [0] 1 false (two BJ))::Vv
noncomputable def NJ (a0:Dv) (a1:Dv) (a2:Dv) (x4:Dv):Option (Bool):=
(DG x4).bind fun d9 =>
(AB a1 (Dv.int 0)).bind fun d10 =>
(BU [d10]).bind fun d11 =>
(Lb d9 d11).bind fun b12 =>
if b12=true then
(DA a0 a1 a2 x4).bind fun c13 =>
bif UH c13 then
(Hf c13).bind fun b14 =>
some b14
else none
else
some false
noncomputable def Im (a0:Dv) (a1:Dv) (a2:Dv) (x4:Dv):Option (Bool):=
(AB a1 (Dv.int 0)).bind fun d6 =>
(AB a2 (Dv.int 0)).bind fun d7 =>
(Lb d6 d7).bind fun b8 =>
if b8=true then
((NJ a0 a1 a2 x4)).bind fun t15 =>
some t15
else
some false
noncomputable def JA (a0:Dv) (a1:Dv) (a2:Dv) (x4:Dv) (t5:Unit):Option (Lp Dv (Unit) (Unit)):=
((Im a0 a1 a2 x4)).bind fun t16 =>
if t16=true then
some (.rt x4 ())
else
some (.go ())
noncomputable def KO (a0 a1 a2:Dv):Option (Dv):=
(AB a1 (Dv.int 0)).bind fun d0 =>
(AB a1 (Dv.int 0)).bind fun d1 =>
(GV d0 d1).bind fun c2 =>
(items c2).bind fun s3 =>
(Bp (JA a0 a1 a2) s3 ()).bind fun l20=>l20.el (fun (t17:Unit) =>
some Dv.non) fun (e18:Dv) (r19:Unit) =>
some e18
theorem aX:FY md Vu (top 20) [] 0=true:=by kernel_rfl
theorem aT:∀ ds,ds.length=(AA (top 20)).length->Bv md Vu (top 20) [] 0 ds=Ep KO ds:=bZ (by kernel_rfl) fun _ _ _=>(by kernel_rfl)
def Vt:List (Str×Sig):=("_law_due", Aj (AA (top 20)) [] 0 false (Ep KO))::Vu
noncomputable def Et (c0:Dv) (c1:Dv):Option (Bool):=
(HE c0 Dv.non).bind fun b2 =>
if b2=true then
some true
else
(HE c1 Dv.non).bind fun b3 =>
some b3
noncomputable def OR (c0:Dv) (c1:Dv):Option (Dv):=
(HE c0 Dv.non).bind fun b5 =>
YA (Dv.bl b5) fun b6 =>
if b6=true then
(HE c1 Dv.non).bind fun b7 =>
some (Dv.bl b7)
else
some (Dv.bl false)
noncomputable def Dc (c0:Dv) (c1:Dv):Option (Dv):=
(Le c1 (Dv.ty "tuple")).bind fun d9 =>
YA d9 fun b10 =>
if b10=true then
(Lb c1 c0).bind fun b11 =>
some (Dv.bl b11)
else
some (Dv.bl false)
noncomputable def EV (a0 a1 a2:Dv):Option (Dv):=
(KO a0 a1 a2).bind fun c0 =>
(FU a0 a1 a2).bind fun c1 =>
((Et c0 c1)).bind fun t4 =>
if t4=true then
((OR c0 c1)).bind fun t8 =>
some t8
else
((Dc c0 c1)).bind fun t12 =>
some t12
theorem Sn:FY md Vt (top 21) [] 0=true:=by kernel_rfl
theorem Se:∀ ds,ds.length=(AA (top 21)).length->Bv md Vt (top 21) [] 0 ds=Ep EV ds:=bZ (by kernel_rfl) fun _ _ _=>(by kernel_rfl)
def aP:List (Str×Sig):=("_law_right", Aj (AA (top 21)) [] 0 true (Ep EV))::Vt
noncomputable def Iz (c7_1:Dv) (x11:Dv) (t12:Unit):Option (Lp Dv (Unit) (Unit)):=
(Pq [6,7] x11).bind fun (t13:Dv×Dv) =>
(EV c7_1 t13.1 t13.2).bind fun c14 =>
bif UH c14 then
(Hf c14).bind fun b15 =>
if (!b15)=true then
some (.rt (Dv.bl false) ())
else
some (.go ())
else none
noncomputable def Iv (c25:Dv) (x27:Dv):Option Dv:=
(AB c25 x27).bind fun d28 =>
some d28
noncomputable def Iy (a0:Dv) (x4:Dv) (t5:Unit):Option (Lp Dv (Unit) (Unit)):=
(GW a0 x4).bind fun c6 =>
(EU c6).bind fun c7 =>
(BJ c7.2 c7.1).bind fun c8 =>
(Pq [4,5] c8.1).bind fun (t9:Dv×Dv) =>
(items (Dv.lst [(Dv.tup [t9.1,t9.2]),(Dv.tup [t9.2,t9.1]),(Dv.tup [t9.1,t9.1]),(Dv.tup [t9.1,t9.2])])).bind fun s10 =>
(Bp (Iz c7.1) s10 ()).bind fun l32=>l32.el (fun (t16:Unit) =>
(FU c7.1 t9.1 t9.2).bind fun c19 =>
(HE c19 Dv.non).bind fun b20 =>
(FU c7.1 t9.2 t9.1).bind fun c21 =>
(HE c21 Dv.non).bind fun b22 =>
(Wu (Dv.bl b20) (Dv.bl b22)).bind fun b23 =>
if b23=true then
some (.rt (Dv.bl false) ())
else
(LZ c19 Dv.non).bind fun b24 =>
if b24=true then
(FU c7.1 t9.2 t9.1).bind fun c25 =>
(items c19).bind fun s26 =>
En s26 ((BO (Iv c25) s26).bind fun y29 =>
(DA c7.1 t9.1 t9.1 (Dv.lst y29)).bind fun c30 =>
bif UH c30 then
(Hf c30).bind fun b31 =>
if (!b31)=true then
some (.rt (Dv.bl false) ())
else
some (.go ())
else none)
else
some (.go ())) fun (e17:Dv) (r18:Unit) =>
some (.rt e17 ())
noncomputable def Uk (a0:Dv):Option (Dv):=
(Bx a0).bind fun d0 =>
(Ig (Dv.int 4) d0).bind fun d1 =>
(Ih (Dv.int 3) d1).bind fun d2 =>
(OU [(Dv.int 1),d2]).bind fun s3 =>
(Bp (Iy a0) s3 ()).bind fun l36=>l36.el (fun (t33:Unit) =>
some (Dv.bl true)) fun (e34:Dv) (r35:Unit) =>
some e34
theorem eN:FY md aP (top 22) [] 1=true:=by kernel_rfl
theorem eM:∀ ds,ds.length=(AA (top 22)).length->Bv md aP (top 22) [] 1 ds=one Uk ds:=iQ (by kernel_rfl) fun _=>(by kernel_rfl)
end My
set_option maxHeartbeats 1000000
namespace R
open PySem L2
def Fd (x:Dv):Prop:=∃ a b:Int,x=.lst [.int a,.int b]
def Tx (N:Nat) (x:Dv):Prop:=∃ l,x=.str l/\l.length<=N/\∀ c∈l,c < 128
theorem Tx.mono {N M:Nat} {x:Dv} (h:Tx N x) (le:N<=M):Tx M x:=let ⟨l,e,h1,h2⟩:=h;⟨l,e,Nat.le_trans h1 le,h2⟩
section
variable {γ τ ρ:Type}
theorem Cu (g:Dv->γ->Option (Dv×γ)) (P:γ->Prop) (R:Dv->Prop):∀ (xs:List Dv) (c:γ),P c->(∀ x∈xs,∀ c,P c->∃ d c',g x c=some (d,c')/\R d/\P c')->∃ ds c',CV g xs c=some (ds,c')/\ds.length=xs.length/\(∀ d∈ds,R d)/\P c'
 | [],c,hc,_=>⟨[],c,rfl,rfl,fun _ z=>(List.not_mem_nil z).elim,hc⟩
 | x::xs,c,hc,h=>by
  obtain ⟨d,c1,e1,r1,p1⟩:=h x List.mem_cons_self c hc;obtain ⟨ds,c2,e2,l2,r2,p2⟩:=Cu g P R xs c1 p1 fun y hy=>h y (List.mem_cons_of_mem _ hy)
  refine ⟨d::ds,c2,by simp only [CV,e1,e2,Option.bind_some],by rw [List.length_cons,List.length_cons,l2],fun y hy=>?_,p2⟩;rcases List.mem_cons.mp hy with rfl | hy
  ·exact r1
  ·exact r2 y hy
theorem Gy (g:Dv->γ->Option γ) (I:Nat->γ->Prop):∀ (xs:List Dv) (k:Nat) (c:γ),I k c->(∀ i x,xs[i]?=some x->∀ c,I (k+i) c->∃ c',g x c=some c'/\I (k+i+1) c')->∃ c',BI g xs c=some c'/\I (k+xs.length) c'
 | [],k,c,hc,_=>⟨c,rfl,hc⟩
 | x::xs,k,c,hc,h=>by
  obtain ⟨c1,e1,i1⟩:=h 0 x rfl c hc;obtain ⟨c2,e2,i2⟩:=Gy g I xs (k+1) c1 i1 fun i y hy c hc=>by
   have:=h (i+1) y hy c (by rw [show k+(i+1)=k+1+i by omega];exact hc);rw [show k+(i+1)+1=k+1+i+1 by omega] at this;exact this
  exact ⟨c2,by simp only [BI,e1,e2,Option.bind_some],by rw [List.length_cons,show k+(xs.length+1)=k+1+xs.length by omega];exact i2⟩
theorem DU (g:Dv->Option Dv) (R:Dv->Prop):∀ (xs:List Dv),(∀ x∈xs,∃ d,g x=some d/\R d)->∃ ds,BO g xs=some ds/\ds.length=xs.length/\∀ d∈ds,R d
 | [],_=>⟨[],rfl,rfl,fun _ z=>by cases z⟩
 | x::xs,h=>by
  obtain ⟨d,e1,r1⟩:=h x List.mem_cons_self;obtain ⟨ds,e2,l2,r2⟩:=DU g R xs fun y hy=>h y (List.mem_cons_of_mem _ hy)
  refine ⟨d::ds,by simp only [BO,e1,e2,Option.bind_some],by rw [List.length_cons,List.length_cons,l2],fun y hy=>?_⟩;rcases List.mem_cons.mp hy with rfl | hy
  ·exact r1
  ·exact r2 y hy
theorem JT (g:Dv->γ->Option (Lp τ γ ρ)) (c:γ):∀ (xs:List Dv),(∀ x∈xs,g x c=some (.go c))->Bp g xs c=some (.go c)
 | [],_=>rfl
 | x::xs,h=>by simp only [Bp,h x List.mem_cons_self,Option.bind_some];exact JT g c xs fun y hy=>h y (List.mem_cons_of_mem _ hy)
theorem Ec (g:Dv->Unit->Option (Lp τ Unit ρ)) (p:Dv->Bool) (d:τ) (r:ρ):∀ (xs:List Dv),(∀ x∈xs,g x ()=some (if p x=true then .rt d r else .go ()))->Bp g xs ()=some (if xs.any p=true then .rt d r else .go ())
 | [],_=>rfl
 | x::xs,h=>by
  have ih:=Ec g p d r xs fun y hy=>h y (List.mem_cons_of_mem _ hy)
  simp only [Bp,h x List.mem_cons_self,Option.bind_some,List.any_cons]
  by_cases q:p x=true
  ·simp [q]
  ·simp only [q,Bool.false_eq_true,if_false,Bool.false_or];simpa using ih
theorem Ah {α:Type} {xs:List Dv} {o:Option α} (h:xs.length<=1000000):En xs o=o:=by unfold En;rw [if_pos h]
end
theorem atI_nat {α:Type} (xs:List α) (i:Nat) (h:i < xs.length):EK xs (i:Int)=some xs[i]:=by
 unfold EK MS;rw [if_pos (by omega),if_pos (by omega)];simp [h]
theorem Fv {α:Type} {xs:List α} {i:Int} (h0:0<=i) (h:i < xs.length):∃ x∈xs,EK xs i=some x:=by
 obtain ⟨n,rfl⟩:∃ n:Nat,i=n:=⟨i.toNat,by omega⟩;exact ⟨xs[n]'(by omega),List.getElem_mem _,atI_nat xs n (by omega)⟩
theorem OC {xs:List Dv} {i:Int} (h0:0<=i) (h:i < xs.length):∃ x∈xs,AB (.lst xs) (.int i)=some x:=Fv h0 h
theorem YC {xs:List Dv} {i:Int} (h0:0<=i) (h:i < xs.length):∃ x∈xs,AB (.tup xs) (.int i)=some x:=Fv h0 h
theorem fE {l:List Nat} {i:Int} (h0:0<=i) (h:i < l.length) (hl:l.length<=1000000):∃ c∈l,AB (.str l) (.int i)=some (.str [c]):=by
 obtain ⟨c,hc,e⟩:=Fv h0 h;exact ⟨c,hc,by simp only [AB,if_pos hl,e,Option.map_some]⟩
theorem EW {n:Int} (h0:-1000000000<=n) (h:n<=1000000000):BM [.int n]=some ((List.range n.toNat).map fun k=>.int (k:Nat)):=by
 have:small n=true:=by unfold small;simp [h0,h]
 simp only [BM,this,cond_true,Int.zero_add]
theorem HX (n:Nat) (h:n<=1000000):BM [.int (n:Nat)]=some ((List.range n).map fun k=>.int (k:Nat)):=by
 have:=EW (n:=(n:Int)) (by omega) (by omega);simpa using this
theorem JO {α:Type} (xs:List Dv) (o:Option α):Gq "list" (.lst xs) o=o:=rfl
theorem de {α:Type} (l:List Nat) (o:Option α):Gq "str" (.str l) o=o:=rfl
theorem gS {α:Type} (xs:List Dv) (o:Option α):Gq "tuple" (.tup xs) o=o:=rfl
theorem df {α:Type} (xs:List Dv) (o:Option α):Gq "list" (.tup xs) o=none:=rfl
theorem fC {R:Type} (b:Bool) (k:Bool->Option R):YA (.bl b) k=k b:=rfl
theorem fB {R:Type} (i:Int) (k:Int->Option R):ba (.int i) k=k i:=rfl
theorem QO (b:Bool):Hf (.bl b)=some b:=rfl
theorem Rk (b:Bool):UH (.bl b)=true:=rfl
theorem HQ {β:Type} {i j:Nat} (x y:Dv) (f:Dv×Dv->Option β):((Pq [i,j] (.tup [x,y])).bind fun (t:Dv×Dv)=>f t)=f (x,y):=rfl
theorem bg {β:Type} {i j k:Nat} (x y z:Dv) (f:Dv×Dv×Dv->Option β):((Pq [i,j,k] (.tup [x,y,z])).bind fun (t:Dv×Dv×Dv)=>f t)=f (x,y,z):=rfl
theorem HG {xs:List Dv} {y:Dv} (h:xs.length<=1000000):Ao (.lst xs) [y]=some (.non,.lst (xs++[y])):=by simp only [Ao,if_pos h]
theorem Xj {xs ys:List Dv} (h:xs.length+ys.length<=1000000):DH (.lst xs) [.lst ys]=some (.non,.lst (xs++ys)):=by simp only [DH,if_pos h]
theorem Gd {R:Dv->Dv->Prop}:∀ {xs ys:List Dv},Paired R xs ys->xs.length=ys.length
 | _,_,.nil=>rfl
 | _,_,.cons _ p=>by rw [List.length_cons,List.length_cons,Gd p]
theorem Jb {α:Type} {xs:List α} {lo hi:Option Int} {x:α} (h:x∈cutA xs lo hi):x∈xs:=List.mem_of_mem_drop (List.mem_of_mem_take h)
theorem Nr {α:Type} (xs:List α) (lo hi:Option Int):(cutA xs lo hi).length<=xs.length:=by
 unfold cutA;rw [List.length_take,List.length_drop];omega
theorem Jc (l:List Nat) (lo hi:Option Int):PL l lo hi=cutA l lo hi:=rfl
theorem Dz:∀ ls:List (List Nat),BB (ls.map Dv.str)=true
 | []=>rfl
 | x::xs=>by simp only [List.map_cons,BB,Dv.cmp,Dz xs,Bool.and_self]
theorem Dy:∀ ls:List (List Nat),By (ls.map Dv.str)=0
 | []=>rfl
 | x::xs=>by simp only [List.map_cons,By,Dv.dep,Dy xs];rfl
theorem FJ (x:List Nat):∀ ls:List (List Nat),Kq (.str x) (ls.map Dv.str)=ls.contains x
 | []=>rfl
 | y::ys=>by
  have:=FJ x ys;simp only [Kq] at this;simp only [Kq,List.map_cons,List.any_cons,this,List.contains_cons,eqV]
  by_cases e:y=x
  ·subst e;simp
  ·have e2:¬ x=y:=fun z=>e z.symm
   have h1:(y == x)=false:=by simpa using e
   have h2:(x == y)=false:=by simpa using e2
   rw [h1,h2]
theorem ez (neg:Bool) (x:List Nat) (ls:List (List Nat)):La neg (.str x) (.lst (ls.map Dv.str))=some (if neg=true then !ls.contains x else ls.contains x):=by
 simp only [La,gA,Dv.cmp,Dz,Dy,Bool.and_self,Nat.zero_le,decide_true,if_true,FJ]
theorem Ph (neg:Bool) (x:List Nat) (ls:List (List Nat)):La neg (.str x) (.tup (ls.map Dv.str))=some (if neg=true then !ls.contains x else ls.contains x):=by
 simp only [La,gA,Dv.cmp,Dz,Dy,Bool.and_self,Nat.zero_le,decide_true,if_true,FJ]
theorem Em (i j:Int):BA (.int i) (.int j)=some (.int (i+j)):=rfl
theorem HI (i j:Int) (h:0 < j):Ck (.int i) (.int j)=some (.int (i % j)):=by simp only [Ck,CW,h,decide_true,if_true]
theorem An (i j:Int):Lb (.int i) (.int j)=some (decide (i=j)):=by
 simp only [Js,Dv.cmp,Dv.dep,Bool.and_self,Nat.zero_le,decide_true,if_true,eqV,Bool.false_eq_true,if_false];congr 1
theorem Jq (i j:Int):Wu (.int i) (.int j)=some (!decide (i=j)):=by
 simp only [Js,Dv.cmp,Dv.dep,Bool.and_self,Nat.zero_le,decide_true,if_true,eqV];congr 1
theorem Tx.cut {N:Nat} {x:Dv} (h:Tx N x) (hN:N<=1000000) (lo hi:Option Int):∃ y,Pl x lo hi=some y/\Tx N y:=by
 obtain ⟨l,rfl,h1,h2⟩:=h;exact ⟨.str (PL l lo hi),by simp only [Pl,if_pos (Nat.le_trans h1 hN)],_,rfl,by rw [Jc];exact Nat.le_trans (Nr _ _ _) h1,fun c hc=>h2 c (Jb (by rw [<- Jc];exact hc))⟩
theorem Tx.add {N M:Nat} {x y:Dv} (h:Tx N x) (h':Tx M y) (hN:N+M<=1000000):∃ z,BA x y=some z/\Tx (N+M) z:=by
 obtain ⟨l,rfl,h1,h2⟩:=h;obtain ⟨l',rfl,h1',h2'⟩:=h';refine ⟨.str (l++l'),by simp only [BA,if_pos (show l.length+l'.length<=1000000 by omega)],_,rfl,by rw [List.length_append];omega,fun c hc=>?_⟩;rcases List.mem_append.mp hc with hc | hc
 ·exact h2 c hc
 ·exact h2' c hc
theorem YK {c:Nat} (h:c < 128):PyProof.Rows.up1 c < 128:=by
 unfold PyProof.Rows.up1;split<;>omega
theorem Tx.upper {N:Nat} {x:Dv} (h:Tx N x) (hN:N<=1000000):∃ y,FQ x=some y/\Tx N y:=by
 obtain ⟨l,rfl,h1,h2⟩:=h;have e:(l.all (fun c=>decide (c < 128)) && decide (l.length<=1000000))=true:=by
  rw [Bool.and_eq_true];exact ⟨List.all_eq_true.mpr fun c hc=>decide_eq_true (h2 c hc),decide_eq_true (Nat.le_trans h1 hN)⟩
 refine ⟨.str (l.map PyProof.Rows.up1),by simp only [FQ,e,if_true],_,rfl,by rw [List.length_map];exact h1,fun c hc=>?_⟩;obtain ⟨d,hd,rfl⟩:=List.mem_map.mp hc;exact YK (h2 d hd)
theorem Ho:∀ ls:List (List Nat),Hq (ls.map Dv.str)=some ls
 | []=>rfl
 | x::xs=>by simp only [List.map_cons,Hq,Ho xs,Option.map_some]
theorem MR:∀ {xs:List Dv},(∀ x∈xs,∃ c,x=.str [c]/\c < 128)->xs.length<=1000->∃ z,HL (.str []) (.lst xs)=some z/\Tx xs.length z:=by
 intro xs h hl;have:∃ cs:List Nat,xs=(cs.map fun c=>[c]).map Dv.str/\∀ c∈cs,c < 128:=by
  clear hl
  induction xs with
  | nil=>exact ⟨[],rfl,fun _ z=>by cases z⟩
  | cons x xs ih =>
   obtain ⟨cs,e,h2⟩:=ih fun y hy=>h y (List.mem_cons_of_mem _ hy)
   obtain ⟨c,rfl,hc⟩:=h x List.mem_cons_self;refine ⟨c::cs,by rw [e];rfl,fun d hd=>?_⟩;rcases List.mem_cons.mp hd with rfl | hd
   ·exact hc
   ·exact h2 d hd
 obtain ⟨cs,e,h2⟩:=this;have hlen:xs.length=cs.length:=by rw [e];simp
 have hj:∀ cs:List Nat,jn [] (cs.map fun c=>[c])=cs:=by
  intro cs;cases cs with
  | nil=>rfl
  | cons a b =>
   show [a]++((b.map fun c=>[c]).flatMap fun y=>[]++y)=a::b;have:∀ b:List Nat,((b.map fun c=>[c]).flatMap fun y=>[]++y)=b:=by
    intro b
    induction b with
    | nil=>rfl
    | cons x y ih=>simp only [List.map_cons,List.flatMap_cons,ih];rfl
   rw [this];rfl
 have hs:((cs.map fun c=>[c]).map List.length).sum=cs.length:=by
  clear e h2 hlen
  induction cs with
  | nil=>rfl
  | cons a b ih=>rw [List.map_cons,List.map_cons,List.sum_cons,ih];simp;omega
 rw [e];refine ⟨.str cs,?_,cs,rfl,by simp,h2⟩;simp only [HL,Ho,hj];rw [if_pos (by rw [hs];simp;omega)]
end R
set_option maxHeartbeats 1000000
namespace My
open PySem L2 R
theorem AM {f:Dv} (hf:Fd f) {n:Int} (h0:0 < n) (h1:n < 1073741824):∃ (r:Nat) (f':Dv),AS f (.int n)=some (.int r,f')/\(r:Int) < n/\Fd f':=by
 obtain ⟨a,b,rfl⟩:=hf;have i0:∀ x y:Dv,AB (.lst [x,y]) (.int 0)=some x:=fun _ _=>rfl
 have i1:∀ x y:Dv,AB (.lst [x,y]) (.int 1)=some y:=fun _ _=>rfl
 have s0:∀ x y d:Dv,BD (.lst [x,y]) (.int 0) d=some (.lst [d,y]):=fun _ _ _=>rfl
 have s1:∀ x y d:Dv,BD (.lst [x,y]) (.int 1) d=some (.lst [x,d]):=fun _ _ _=>rfl
 have m:∀ x:Int,∃ r:Nat,x % n=r/\(r:Int) < n:=fun x=>⟨(x % n).toNat,by have:=Int.emod_nonneg x (show n≠0 by omega);omega,by have:=Int.emod_nonneg x (show n≠0 by omega);have:=Int.emod_lt_of_pos x h0;omega⟩
 have big1:big 48271=true:=by decide
 have big2:big 40692=true:=by decide
 have big3:big 2147483647=true:=by decide
 unfold AS;simp only [i0,Option.bind_some,Cv]
 by_cases h:0 < a
 ·obtain ⟨r,e,hr⟩:=m a;refine ⟨r,.lst [.int (a / n),.int b],?_,hr,a / n,b,rfl⟩;simp only [h,decide_true,if_true,Ck,Tv,CW,h0,h1,Bool.and_self,Option.bind_some,i0,s0,e]
 ·simp only [h,decide_false,Bool.false_eq_true,if_false,i1,s1,CO,big1,big2,big3,Bool.or_true,if_true,Option.bind_some,Ck,Tv,CW,BA,h0,decide_true,show (0:Int) < 2147483647 by decide,show (0:Int) < 2147483399 by decide,show (0:Int) < 8191 by decide,show (8191:Int) < 1073741824 by decide,Bool.and_self];obtain ⟨r,e,hr⟩:=m (((b * 48271 % 2147483647) * 2147483647+((b * 48271 % 2147483647 * 40692+30103) % 2147483399+1)) / 8191);exact ⟨r,_,by rw [e],hr,_,_,rfl⟩
theorem PF {ns:List Int} {k:Nat}:∃ f,GW (.scr ns) (.int k)=some f/\Fd f:=by
 have b1:big 7907=true:=by decide
 have b2:big 2147483629=true:=by decide
 have b3:big 31=true:=by decide
 have b4:big 48271=true:=by decide
 have b5:big 40692=true:=by decide
 have c1:∃ c:Int,GM (.scr ns) (.int k) (.int (7907 * k+13579))=some (.int c):=by
  unfold GM KN;simp only [Bx,Option.bind_some,Cv]
  by_cases h:(k:Int) < ns.length
  ·simp only [h,decide_true,if_true,AB,atI_nat ns k (by omega),Option.map_some,Option.bind_some];exact ⟨_,rfl⟩
  ·simp only [h,decide_false,Bool.false_eq_true,if_false]
   by_cases h2:0 < (ns.length:Int)
   ·have e:=Int.emod_nonneg (k:Int) (show (ns.length:Int)≠0 by omega);have e':=Int.emod_lt_of_pos (k:Int) h2;obtain ⟨x,_,ex⟩:=Fv e e';simp only [h2,decide_true,if_true,Ck,CW,Option.bind_some,AB,ex,Option.map_some,CO,b1,b3,Bool.true_or,Bool.or_true,BA,show (0:Int) < 2147483629 by decide];exact ⟨_,rfl⟩
   ·simp only [h2,decide_false,Bool.false_eq_true,if_false];exact ⟨_,rfl⟩
 obtain ⟨c,e⟩:=c1;have c2:∃ d:Int,GL (.int c)=some (.int d):=by
  unfold GL;simp only [bN,CW,show (decide ((0:Int)<=18) && decide ((18:Int)<=1000000) && decide ((10:Int).natAbs < 2 ^ 64))=true by decide,if_true,Option.bind_some,Cv];split<;>exact ⟨_,rfl⟩
 obtain ⟨d,e2⟩:=c2;unfold GW;simp only [CO,b1,b4,b5,Bool.true_or,Bool.or_true,if_true,Option.bind_some,BA,e,e2,Ck,CW,show (0:Int) < 2147483629 by decide,show (0:Int) < 2147483646 by decide,decide_true];exact ⟨_,rfl,_,_,rfl⟩
noncomputable abbrev gu:List Nat:=[97,98,99,100,101,102,103,104,105,106,107,108,109,110,111,112,113,114,115,116,117,118,119,120,121,122]
theorem bL:∀ c∈gu,c < 128:=by decide
theorem Rx {i:Int} (h0:0<=i) (h:i < 26):∃ c,AB (.str gu) (.int i)=some (.str [c])/\c < 128:=by
 obtain ⟨c,hc,e⟩:=fE (l:=gu) h0 (show i < ((26:Nat):Int) by omega) (by decide);exact ⟨c,e,bL c hc⟩
theorem Ir {c:Nat} (h:c < 128):Tx 1 (.str [c]):=⟨[c],rfl,by simp,fun d hd=>by rw [List.mem_singleton] at hd;subst hd;exact h⟩
theorem OQ {f:Dv} (hf:Fd f) (xs:List Dv) (hl:xs.length<=1000):∃ z f',(∃ ds,CV De xs f=some (ds,f')/\HL (.str []) (.lst ds)=some z)/\Tx xs.length z/\Fd f':=by
 obtain ⟨ds,f',e,hl2,hd,hf'⟩:=Cu De Fd (fun d=>∃ c,d=.str [c]/\c < 128) xs f hf fun x _ c hc=>by
  obtain ⟨r,f',e,hr,hf'⟩:=AM hc (n:=26) (by decide) (by decide);obtain ⟨c,e2,hc⟩:=Rx (i:=r) (by omega) hr;exact ⟨.str [c],f',by unfold De;simp only [e,e2,Option.bind_some],⟨c,rfl,hc⟩,hf'⟩
 obtain ⟨z,e2,hz⟩:=MR hd (by omega);exact ⟨z,f',⟨ds,e,e2⟩,by rw [hl2] at hz;exact hz,hf'⟩
theorem gY {α:Type} (xs:List α) (r:Nat):(cutA xs none (some (r:Int))).length<=r:=by
 unfold cutA;rw [List.length_take];unfold HT.sIx;simp only [];split<;>omega
theorem gX {α:Type} (xs:List α) (r:Nat) (h:Option Int):(cutA xs (some (r:Int)) h).length<=xs.length - r:=by
 unfold cutA;rw [List.length_take,List.length_drop];have:HT.sIx xs.length 0 (some (r:Int))=min r xs.length:=by unfold HT.sIx;simp only [];split<;>omega
 omega
theorem hZ {N:Nat} {l:List Nat} (hN:l.length<=1000000) (h:∀ c∈l,c < 128) {lo hi:Option Int} (hl:(cutA l lo hi).length<=N):∃ y,Pl (.str l) lo hi=some y/\Tx N y:=
 ⟨.str (PL l lo hi),by simp only [Pl,if_pos hN],_,rfl,by rw [Jc];exact hl,fun c hc=>h c (Jb (by rw [<- Jc];exact hc))⟩
theorem MJ {x:Dv} (h:Tx 4 x):∃ y,Ez x=some y/\Tx 5 y:=by
 obtain ⟨l,rfl,h1,h2⟩:=id h;unfold Ez;have e:=Ph false l [[100,101,102],[108,101,116],[116,101,108,108],[108,111,111,112],[112,105,99,107],[99,97,108,108]];simp only [List.map_cons,List.map_nil,Bool.false_eq_true,if_false] at e;simp only [e,Option.bind_some];split
 ·obtain ⟨z,e1,hz⟩:=h.add (Ir (c:=113) (by decide)) (by decide);exact ⟨z,by rw [e1];rfl,hz⟩
 ·exact ⟨_,rfl,h.mono (by decide)⟩
theorem Gh {f:Dv} (hf:Fd f) {n:Nat} (h2:2<=n) (hn:n<=1000):∃ ns f',CU f (.int n)=some (.lst ns,f')/\ns.length=n/\(∀ x∈ns,Tx 5 x)/\Fd f':=by
 obtain ⟨r1,f1,e1,b1,hf1⟩:=AM hf (n:=4) (by decide) (by decide);have er:BM [.int r1]=some ((List.range (r1:Int).toNat).map fun k=>.int (k:Nat)):=EW (by omega) (by omega);obtain ⟨z,f2,⟨ds,e3,e4⟩,hz,hf2⟩:=OQ hf1 ((List.range (r1:Int).toNat).map fun k=>.int (k:Nat)) (by simp;omega);have hz:Tx 3 z:=hz.mono (by simp;omega);obtain ⟨zl,rfl,hz1,hz2⟩:=hz;obtain ⟨r7,f7,e7,b7,hf7⟩:=AM hf2 (n:=26) (by decide) (by decide);have el:Bx (.str zl)=some (.int zl.length):=by simp only [Bx,if_pos (show zl.length<=1000000 by omega)]
 obtain ⟨r10,f10,e10,b10,hf10⟩:=AM hf7 (n:=(zl.length:Int)+1) (by omega) (by omega);obtain ⟨r11,f11,e11,b11,hf11⟩:=AM hf10 (n:=4) (by decide) (by decide);have en:BM [.int n]=some ((List.range (n:Int).toNat).map fun k=>.int (k:Nat)):=EW (by omega) (by omega);obtain ⟨c,e12,ns,rfl,hl,hns⟩:=Gy (FD (.str zl) (.int r7) (.int r10) (.int r11)) (fun i c=>∃ ns,c=.lst ns/\ns.length=i/\∀ x∈ns,Tx 5 x) ((List.range (n:Int).toNat).map fun k=>.int (k:Nat)) 0 (.lst []) ⟨[],rfl,rfl,fun _ z=>(List.not_mem_nil z).elim⟩ fun i x hx c hc=>by
  obtain ⟨ns,rfl,hl,hns⟩:=hc;rw [List.getElem?_map] at hx;have hi:i < n:=by
   rcases Nat.lt_or_ge i n with h | h
   ·exact h
   ·rw [List.getElem?_eq_none (by simp;omega)] at hx;cases hx
  rw [List.getElem?_eq_getElem (by simp;omega)] at hx;simp only [Option.map_some,Option.some.injEq,List.getElem_range] at hx;subst hx;obtain ⟨c,ec,hc⟩:=Rx (i:=((r7:Int)+7 * (i:Nat)) % 26) (Int.emod_nonneg _ (by decide)) (Int.emod_lt_of_pos _ (by decide));obtain ⟨y1,ey1,hy1⟩:=hZ (by omega) hz2 (gY zl r10);obtain ⟨y2,ey2,hy2⟩:=hy1.add (Ir hc) (by omega);obtain ⟨y3,ey3,hy3⟩:=hZ (by omega) hz2 (gX zl r10 (some (((r11:Int)+(i:Nat)) % 4)));obtain ⟨y4,ey4,hy4⟩:=hy2.add hy3 (by omega);obtain ⟨y5,ey5,hy5⟩:=MJ (hy4.mono (by omega));refine ⟨.lst (ns++[y5]),?_,ns++[y5],rfl,by rw [List.length_append,hl];rfl,fun x hx=>?_⟩
  ·have b7:big 7=true:=by decide
   unfold FD;simp only [CO,b7,Bool.true_or,if_true,Option.bind_some,Em,HI _ _ (show (0:Int) < 26 by decide),HI _ _ (show (0:Int) < 4 by decide),ec,fB,ey1,ey3];rw [ey2];simp only [Option.bind_some];rw [ey4];simp only [Option.bind_some,ey5,JO,HG (show ns.length<=1000000 by omega)]
  ·rcases List.mem_append.mp hx with hx | hx
   ·exact hns x hx
   ·rw [List.mem_singleton] at hx;subst hx;exact hy5
 have hl:ns.length=n:=by rw [hl];simp
 have last:∃ ms f',Ey (.int n) f11 (.lst ns)=some (f',.lst ms)/\ms.length=n/\(∀ x∈ms,Tx 5 x)/\Fd f':=by
  have m2:∃ x∈ns,AB (.lst ns) (.int (-2))=some x:=by
   refine ⟨ns[n - 2]'(by omega),List.getElem_mem _,?_⟩;simp only [AB,EK,MS];rw [if_neg (by omega),if_pos (by omega)];simp only [Option.bind_some];rw [show (-2+(ns.length:Int)).toNat=n - 2 by omega];exact List.getElem?_eq_getElem (by omega)
  obtain ⟨x,hx,ex⟩:=m2;obtain ⟨l,rfl,hl1,hl2⟩:=id (hns x hx);have t1:∃ (b:Bool) (f':Dv),Eu (.int n) f11 (.lst ns)=some (b,f')/\(b=true->l.length<=3)/\Fd f':=by
   unfold Eu Hw;simp only [Cv,show (1:Int) < n by omega,decide_true,if_true,Option.bind_some,Ld,ex,Bx,if_pos (show l.length<=1000000 by omega)];split
   ·rename_i hlt;obtain ⟨r,f',e,_,h⟩:=AM hf11 (n:=4) (by decide) (by decide);simp only [e,Option.bind_some,An];exact ⟨_,_,rfl,fun _=>by have:=of_decide_eq_true hlt;omega,h⟩
   ·exact ⟨_,_,rfl,(fun z=>by cases z),hf11⟩
  obtain ⟨b,f',et,hb3,hf'⟩:=t1;unfold Ey;simp only [et,Option.bind_some];cases b
  ·exact ⟨ns,f',by simp,hl,hns,hf'⟩
  ·obtain ⟨y,ey,hy⟩:=Tx.add (N:=3) (M:=1) ⟨l,rfl,hb3 rfl,hl2⟩ (Ir (c:=113) (by decide)) (by decide);simp only [if_true,Ld,Option.bind_some,ex,ey,BD,MS];rw [if_neg (by omega),if_pos (by omega)];refine ⟨_,f',rfl,by rw [List.length_set];exact hl,fun x hx=>?_,hf'⟩;rcases List.mem_or_eq_of_mem_set hx with hx | rfl
   ·exact hns x hx
   ·exact hy.mono (by decide)
 obtain ⟨ms,f',e13,hl3,hms,hf'⟩:=last;refine ⟨ms,f',?_,hl3,hms,hf'⟩;unfold CU;simp only [de,e1,er,Option.bind_some];rw [Ah (by simp;omega)];simp only [Option.bind_some,e3,e4,e7,el,Em,e10,e11,en];rw [e12];simp only [Option.bind_some,e13]
def fG (n:Nat) (xs:List Dv):Prop:=∀ y∈xs,∃ r:Nat,y=.int r/\r < n
def Row (n:Nat) (x:Dv):Prop:=∃ xs,x=.tup xs/\xs.length=n/\fG n xs
def Tab (n:Nat) (r:Int) (x:Dv):Prop:=(r=1/\Row n x)\/(r=2/\∃ xs,x=.tup xs/\xs.length=n/\∀ y∈xs,Row n y)
def XC (N:Nat) (x:Dv):Prop:=∃ a r,x=.tup [a,.int r]/\Tx N a/\(r=1\/r=2)
def Jy (n:Nat) (d t:Dv):Prop:=∃ a r,d=.tup [a,.int r]/\(r=1\/r=2)/\Tab n r t
theorem Lv {f:Dv} (hf:Fd f):∃ fs ds f',EU f=some (.tup [.tup fs,.tup ds],f')/\fs.length<=4/\(∀ x∈fs,Tx 10 x)/\ds.length<=3/\(∀ x∈ds,XC 5 x)/\Fd f':=by
 obtain ⟨ns,f1,e1,hl,hns,hf1⟩:=Gh hf (n:=4) (by decide) (by decide);obtain ⟨r2,f2,e2,b2,hf2⟩:=AM hf1 (n:=4) (by decide) (by decide);have h3:∀ x∈cutA ns none (some (r2:Int)),Tx 5 x:=fun x hx=>hns x (Jb hx)
 have l3:=Nr ns none (some (r2:Int));obtain ⟨ps,e4,l4,h4⟩:=DU FC (Tx 10) (cutA ns none (some (r2:Int))) fun x hx=>by
  obtain ⟨y1,ey1,hy1⟩:=(h3 x hx).cut (by decide) none (some 1);obtain ⟨l1,rfl,_,_⟩:=id hy1;obtain ⟨y2,ey2,hy2⟩:=hy1.upper (by decide);obtain ⟨y3,ey3,hy3⟩:=(h3 x hx).cut (by decide) (some 1) none;obtain ⟨y4,ey4,hy4⟩:=hy2.add hy3 (by decide);exact ⟨y4,by unfold FC;simp only [ey1,de,ey2,ey3,ey4,Option.bind_some],hy4⟩
 obtain ⟨ms,f10,e10,hl10,hms,hf10⟩:=Gh hf2 (n:=3) (by decide) (by decide);obtain ⟨r11,f11,e11,b11,hf11⟩:=AM hf10 (n:=8) (by decide) (by decide);have m:∀ x∈[(Dv.int 1),(Dv.int 2),(Dv.int 3),(Dv.int 2),(Dv.int 3),(Dv.int 1),(Dv.int 2),(Dv.int 0)],∃ k:Nat,x=.int k/\k<=3:=by
  intro x hx;simp only [List.mem_cons,List.not_mem_nil,or_false] at hx;rcases hx with rfl | rfl | rfl | rfl | rfl | rfl | rfl | rfl
  all_goals first | exact ⟨0,rfl,by decide⟩ | exact ⟨1,rfl,by decide⟩ | exact ⟨2,rfl,by decide⟩ | exact ⟨3,rfl,by decide⟩
 obtain ⟨x,hx,ex⟩:=OC (xs:=[(Dv.int 1),(Dv.int 2),(Dv.int 3),(Dv.int 2),(Dv.int 3),(Dv.int 1),(Dv.int 2),(Dv.int 0)]) (i:=r11) (by omega) b11;obtain ⟨k,rfl,hk⟩:=m x hx;have er:BM [.int k]=some ((List.range (k:Int).toNat).map fun j=>.int (j:Nat)):=EW (by omega) (by omega);obtain ⟨qs,f16,e16,l6,h6,hf16⟩:=Cu (FB (.lst ms)) Fd (XC 5) ((List.range (k:Int).toNat).map fun j=>.int (j:Nat)) f11 hf11 fun x hx c hc=>by
  obtain ⟨j,hj,rfl⟩:=List.mem_map.mp hx;have hj:j < k:=by simpa using hj
  obtain ⟨a,ha,ea⟩:=OC (xs:=ms) (i:=j) (by omega) (by omega);obtain ⟨r,f',e,b,hf'⟩:=AM hc (n:=2) (by decide) (by decide);exact ⟨.tup [a,.int (1+r)],f',by unfold FB;simp only [ea,e,Option.bind_some,Em],⟨a,1+r,rfl,hms a ha,by omega⟩,hf'⟩
 refine ⟨ps,qs,f16,?_,by omega,h4,by rw [l6];simp;omega,h6,hf16⟩;have e1':CU f (.int 4)=some (.lst ns,f1):=e1;have e10':CU f2 (.int 3)=some (.lst ms,f10):=e10;unfold EU;simp only [e1',e2,Option.bind_some,fB,Pl,items];rw [Ah (by omega),e4];simp only [Option.bind_some,e10',e11];rw [ex];simp only [Option.bind_some,er];rw [Ah (by simp;omega),e16];rfl
theorem GX (g:Dv->Dv->Dv->Option (Dv×Dv)) (hg:∀ x2 it c,g x2 it c=(AS c x2).bind fun r=>some (r.1,r.2)) {n:Nat} (h0:0 < n) (h1:n<=1000) {f:Dv} (hf:Fd f) (xs:List Dv):∃ ts f',CV (g (.int n)) xs f=some (ts,f')/\ts.length=xs.length/\fG n ts/\Fd f':=
 Cu (g (.int n)) Fd (fun y=>∃ r:Nat,y=.int r/\r < n) xs f hf fun x hx c hc=>by
  obtain ⟨r,f',e,b,hf'⟩:=AM hc (n:=n) (by omega) (by omega);exact ⟨.int r,f',by rw [hg,e];rfl,⟨r,rfl,by omega⟩,hf'⟩
theorem IJ (g:Dv->(Dv×Dv)->Option (Dv×Dv)) (P:Dv->Prop) (R:Dv->Dv->Prop):∀ (xs:List Dv) (f:Dv) (acc:List Dv),P f->acc.length+xs.length<=1000->(∀ x∈xs,∀ f acc,P f->acc.length<=1000->∃ f' t,g x (f,.lst acc)=some (f',.lst (acc++[t]))/\R x t/\P f')->∃ f' ts,BI g xs (f,.lst acc)=some (f',.lst (acc++ts))/\Paired R xs ts/\P f'
 | [],f,acc,hf,_,_=>⟨f,[],by simp only [BI,List.append_nil],.nil,hf⟩
 | x::xs,f,acc,hf,hl,h=>by
  rw [List.length_cons] at hl;obtain ⟨f1,t,e1,r1,h1⟩:=h x List.mem_cons_self f acc hf (by omega);obtain ⟨f2,ts,e2,r2,h2⟩:=IJ g P R xs f1 (acc++[t]) h1 (by rw [List.length_append];simp;omega) fun y hy=>h y (List.mem_cons_of_mem _ hy)
  exact ⟨f2,t::ts,by simp only [BI,e1,Option.bind_some,e2,List.append_assoc,List.singleton_append],.cons r1 r2,h2⟩
theorem Lg {f:Dv} (hf:Fd f) {fs ds:List Dv} {n:Nat} (h0:0 < n) (h1:n<=1000) (hfs:fs.length<=100) (hds:ds.length<=100) (hd:∀ x∈ds,∃ a r,x=.tup [a,.int r]/\(r=1\/r=2)):∃ ts tbs f',Cz f (.tup [.tup fs,.tup ds]) (.int n)=some (.tup [.int n,.tup ts,.tup tbs],f')/\ts.length=fs.length/\fG n ts/\Paired (Jy n) ds tbs/\Fd f':=by
  obtain ⟨ts,f1,e1,l1,h1',hf1⟩:=GX IA (fun _ _ _=>rfl) h0 h1 hf fs;have er:BM [.int n]=some ((List.range (n:Int).toNat).map fun j=>.int (j:Nat)):=EW (by omega) (by omega);have lr:((List.range (n:Int).toNat).map fun j=>Dv.int (j:Nat)).length=n:=by simp
  obtain ⟨f2,tbs,e2,p2,hf2⟩:=IJ (Df (.int n)) Fd (Jy n) ds f1 [] hf1 (by simp;omega) fun x hx f acc hf hl=>by
    obtain ⟨a,r,rfl,hr⟩:=hd x hx;rcases hr with rfl | rfl
    · obtain ⟨ys,f',e,l,hy,hf'⟩:=GX Hz (fun _ _ _=>rfl) h0 h1 hf ((List.range (n:Int).toNat).map fun j=>.int (j:Nat));refine ⟨f',.tup ys,?_,⟨a,1,rfl,.inl rfl,.inl ⟨rfl,ys,rfl,by rw [l,lr],hy⟩⟩,hf'⟩;unfold Df Ex;simp only [HQ,Option.bind_some,An,decide_true,if_true,er,JO];rw [Ah (by omega),e];simp only [Option.bind_some,AK,HG (show acc.length<=1000000 by omega)]
    · obtain ⟨ys,f',e,l,hy,hf'⟩:=Cu (FA (.int n)) Fd (Row n) ((List.range (n:Int).toNat).map fun j=>.int (j:Nat)) f hf fun x hx c hc=>by
        obtain ⟨zs,f',e,l,hz,hf'⟩:=GX Hy (fun _ _ _=>rfl) h0 h1 hc ((List.range (n:Int).toNat).map fun j=>.int (j:Nat));refine ⟨.tup zs,f',?_,⟨zs,rfl,by rw [l,lr],hz⟩,hf'⟩;unfold FA;simp only [Option.bind_some,er];rw [Ah (by omega),e];simp only [Option.bind_some,AK]
      refine ⟨f',.tup ys,?_,⟨a,2,rfl,.inr rfl,.inr ⟨rfl,ys,rfl,by rw [l,lr],hy⟩⟩,hf'⟩;unfold Df Ex;simp only [HQ,Option.bind_some,An,show decide ((2:Int)=1)=false by decide,Bool.false_eq_true,if_false,er,JO];rw [Ah (by omega),e];simp only [Option.bind_some,AK,HG (show acc.length<=1000000 by omega)]
  refine ⟨ts,tbs,f2,?_,l1,h1',p2,hf2⟩;have i0:AB (.tup [.tup fs,.tup ds]) (.int 0)=some (.tup fs):=rfl;have i1:AB (.tup [.tup fs,.tup ds]) (.int 1)=some (.tup ds):=rfl;unfold Cz;simp only [i0,i1,Option.bind_some,items];rw [Ah (by omega),e1];simp only [Option.bind_some,AK];rw [e2];rfl
noncomputable def nI (ts:List Nat):List Dv:=ts.map fun t=>Dv.int (t:Nat)
def tI (ts:List Nat):Dv:=.tup (nI ts)
theorem Bo (ts:List Nat):(nI ts).length=ts.length:=by simp [nI]
theorem Rn (a b:List Nat):nI (a++b)=nI a++nI b:=by simp [nI]
theorem QV (ts:List Nat):Bx (tI ts)=some (.int (ts.length:Nat)):=by show some (Dv.int ((nI ts).length:Nat))=_;rw [Bo]
theorem Lo {n:Nat}:∀ {xs:List Dv},fG n xs->∃ ts,xs=nI ts/\∀ t∈ts,t < n
 | [],_=>⟨[],rfl,fun _ h=>by cases h⟩
 | x::xs,h=>by
  obtain ⟨ts,e,ht⟩:=Lo (xs:=xs) fun y hy=>h y (List.mem_cons_of_mem _ hy)
  obtain ⟨r,rfl,hr⟩:=h x List.mem_cons_self;refine ⟨r::ts,by rw [e];rfl,fun t h=>?_⟩;rcases List.mem_cons.mp h with rfl | h
  ·exact hr
  ·exact ht t h
theorem Zn {n:Nat} {ts:List Nat} (h:∀ t∈ts,t < n):fG n (nI ts):=fun y hy=>by
 obtain ⟨t,ht,rfl⟩:=List.mem_map.mp hy;exact ⟨t,rfl,h t ht⟩
theorem FS {ts:List Nat} {h:Nat} (hh:h < ts.length):AB (tI ts) (.int (h:Nat))=some (.int (ts.getD h 0:Nat)):=by
 show EK (nI ts) (h:Int)=_;rw [atI_nat _ _ (by rw [Bo];exact hh)];simp [nI,List.getD,hh]
theorem getD_mem {ts:List Nat} {h:Nat} (hh:h < ts.length):ts.getD h 0∈ts:=by
 simp [List.getD,hh]
def sub (x:Dv) (a:Nat):Dv:=(AB x (.int (a:Nat))).getD .non
def Dx (x:Dv) (a:Nat):Nat:=match sub x a with | .int c=>c.toNat | _=>0
theorem Aw {n:Nat} {x:Dv} {a:Nat} (h:Row n x) (ha:a < n):AB x (.int (a:Nat))=some (.int (Dx x a:Nat))/\Dx x a < n:=by
 obtain ⟨xs,rfl,hl,hx⟩:=h;obtain ⟨y,hy,e⟩:=YC (xs:=xs) (i:=a) (by omega) (by omega);obtain ⟨c,rfl,hc⟩:=hx y hy;have:Dx (.tup xs) a=c:=by unfold Dx sub;rw [e];simp
 rw [this];exact ⟨e,hc⟩
def Lf (n:Nat) (x:Dv):Prop:=∃ xs,x=.tup xs/\xs.length=n/\∀ y∈xs,Row n y
theorem Bt {n:Nat} {x:Dv} {a:Nat} (h:Lf n x) (ha:a < n):AB x (.int (a:Nat))=some (sub x a)/\Row n (sub x a):=by
 obtain ⟨xs,rfl,hl,hx⟩:=h;obtain ⟨y,hy,e⟩:=YC (xs:=xs) (i:=a) (by omega) (by omega);have:sub (.tup xs) a=y:=by unfold sub;rw [e];rfl
 rw [this];exact ⟨e,hx y hy⟩
theorem Tab.one {n:Nat} {x:Dv} (h:Tab n 1 x):Row n x:=by
 rcases h with ⟨_,h⟩ | ⟨h,_⟩
 ·exact h
 ·cases h
theorem Tab.two {n:Nat} {x:Dv} (h:Tab n 2 x):Lf n x:=by
 rcases h with ⟨h,_⟩ | ⟨_,h⟩
 ·cases h
 ·exact h
def Wl (n nf:Nat) (ds:List Dv) (w:Dv) (cs:List Nat) (tbs:List Dv):Prop:=w=.tup [.int (n:Nat),tI cs,.tup tbs]/\cs.length=nf/\(∀ c∈cs,c < n)/\Paired (Jy n) ds tbs
theorem Wl.w0 {n nf:Nat} {ds:List Dv} {w:Dv} {cs:List Nat} {tbs:List Dv} (h:Wl n nf ds w cs tbs):AB w (.int 0)=some (.int (n:Nat)):=by rw [h.1];rfl
theorem Wl.w1 {n nf:Nat} {ds:List Dv} {w:Dv} {cs:List Nat} {tbs:List Dv} (h:Wl n nf ds w cs tbs):AB w (.int 1)=some (tI cs):=by rw [h.1];rfl
theorem Wl.w2 {n nf:Nat} {ds:List Dv} {w:Dv} {cs:List Nat} {tbs:List Dv} (h:Wl n nf ds w cs tbs):AB w (.int 2)=some (.tup tbs):=by rw [h.1];rfl
theorem GB {n m:Nat} {z:Dv}:∀ {ds ts us:List Dv},Paired (Jy n) ds ts->Paired (Jy m) ds us->z∈zipD3 ds ts us->∃ a r t u,z=.tup [.tup [a,.int r],t,u]/\(r=1\/r=2)/\Tab n r t/\Tab m r u
 | _,_,_,.nil,_,h=>by simp [zipD3] at h
 | _,_,_,.cons q1 p1,.cons q2 p2,h=>by
  simp only [zipD3,List.mem_cons] at h;rcases h with rfl | h
  ·obtain ⟨a,r,rfl,hr,ht⟩:=q1;obtain ⟨a',r',e,_,hu⟩:=q2;simp only [Dv.tup.injEq,List.cons.injEq,Dv.int.injEq,and_true] at e;obtain ⟨_,rfl⟩:=e;exact ⟨a,r,_,_,rfl,hr,ht,hu⟩
  ·exact GB p1 p2 h
theorem KA {z:Dv}:∀ {cs es:List Nat},z∈zipD2 (nI cs) (nI es)->∃ c e:Nat,z=.tup [.int c,.int e]/\c∈cs
 | [],es,h=>by simp [nI,zipD2] at h
 | c::cs,[],h=>by simp [nI,zipD2] at h
 | c::cs,e::es,h=>by
  simp only [nI,List.map_cons,zipD2,List.mem_cons] at h;rcases h with rfl | h
  ·exact ⟨c,e,rfl,List.mem_cons_self⟩
  ·obtain ⟨c',e',q,hc⟩:=KA (cs:=cs) (es:=es) h;exact ⟨c',e',q,List.mem_cons_of_mem _ hc⟩
noncomputable def HZ (ts:List Nat) (h v:Nat):Bool:=decide (ts.length<=h) || decide (ts.getD h 0=v)
def BP (T U:Dv) (ts:List Nat):Bool:=(List.range ts.length).all fun k=>HZ ts (Dx T k) (Dx U (ts.getD k 0))
def Cs (T U:Dv) (ts:List Nat):Bool:=(List.range ts.length).all fun k=>BP (sub T k) (sub U (ts.getD k 0)) ts
def Fg (ts:List Nat) (z:Dv):Bool:=match z with | .tup [.int c,.int d]=>HZ ts c.toNat d.toNat | _=>true
def BL (ts:List Nat) (z:Dv):Bool:=match z with | .tup [.tup [_,.int r],T,U]=>if r=1 then BP T U ts else Cs T U ts | _=>true
def la (cs es:List Nat) (ds T U:List Dv) (ts:List Nat):Bool:=(zipD2 (nI cs) (nI es)).all (Fg ts) && (zipD3 ds T U).all (BL ts)
theorem Eh (a b:Nat):decide ((a:Int)=(b:Int))=decide (a=b):=decide_eq_decide.mpr (by omega)
theorem Vc (ts:List Nat) (h v:Nat):Ca (.int (h:Nat)) (.int (v:Nat)) (tI ts)=some (.bl (HZ ts h v)):=by
 unfold Ca HZ;simp only [QV,Option.bind_some,Cv,fC]
 by_cases hh:ts.length<=h
 ·have:((ts.length:Nat):Int)<=(h:Int):=by omega
  simp only [this,hh,decide_true,if_true,Bool.true_or]
 ·have:¬ ((ts.length:Nat):Int)<=(h:Int):=by omega
  simp only [this,hh,decide_false,Bool.false_eq_true,if_false,Bool.false_or,FS (show h < ts.length by omega),Option.bind_some,An,Eh]
theorem Nq:∀ (ts:List Nat) (j:Nat),enumD j (nI ts)=(List.range ts.length).map fun k=>.tup [.int ((j+k:Nat)),.int (ts.getD k 0:Nat)]
 | [],j=>rfl
 | t::ts,j=>by
  have ih:=Nq ts (j+1);simp only [nI,List.map_cons,enumD,List.length_cons,List.range_succ_eq_map,List.map_cons,List.map_map,Function.comp_def];simp only [nI] at ih;rw [ih];congr 1;refine List.map_congr_left fun k _=>?_
  rw [show j+1+k=j+(k+1) by omega];simp [List.getD]
theorem Tw {α:Type} (p:α->Bool):∀ (xs:List α),Ms (.lst (xs.map fun x=>.bl (p x)))=some (.bl (xs.all p)):=by
 intro xs;have:Lh (xs.map fun x=>.bl (p x))=some (xs.map p):=by
  induction xs with
  | nil=>rfl
  | cons x xs ih=>simp only [List.map_cons,Lh,ih,Option.map_some]
 simp only [Ms,this,Option.map_some,List.all_map,Function.comp_def,id]
theorem NY {α:Type} (g:Dv->Option Dv) (f:α->Dv) (p:α->Bool) (xs:List α) (h:∀ x∈xs,g (f x)=some (.bl (p x))):∃ ps,BO g (xs.map f)=some ps/\Ms (.lst ps)=some (.bl (xs.all p)):=by
 have:BO g (xs.map f)=some (xs.map fun x=>.bl (p x)):=by
  induction xs with
  | nil=>rfl
  | cons x xs ih=>simp only [List.map_cons,BO,h x List.mem_cons_self,ih fun y hy=>h y (List.mem_cons_of_mem _ hy),Option.bind_some]
 exact ⟨_,this,Tw p xs⟩
theorem iX (m:Nat) (ts:List Nat) (h v:Nat):AH (m+1) (.int 0) (.int (h:Nat)) (.int (v:Nat)) (tI ts)=some (.bl (HZ ts h v)):=by
 simp only [AH,An,decide_true,Option.bind_some,if_true,Vc]
theorem Xu (ts:List Nat):NP [tI ts]=some ((List.range ts.length).map fun k=>.tup [.int (k:Nat),.int (ts.getD k 0:Nat)]):=by
 show some (enumD 0 (nI ts))=_;rw [Nq];simp only [Nat.zero_add]
theorem sub_int (i j:Int):Mq (.int i) (.int j)=some (.int (i - j)):=rfl
section
variable {n1 n2:Nat} {T U:Dv} {ts:List Nat}
theorem iA (m:Nat) (hT:Row n1 T) (hU:Row n2 U) (hl:ts.length<=n1) (hn:n1<=1000) (ht:∀ t∈ts,t < n2):AH (m+2) (.int 1) T U (tI ts)=some (.bl (BP T U ts)):=by
 obtain ⟨ps,e,hp⟩:=NY (BE (AH (m+1)) (.int 1) T U (tI ts)) (fun k:Nat=>.tup [.int (k:Nat),.int (ts.getD k 0:Nat)]) (fun k=>HZ ts (Dx T k) (Dx U (ts.getD k 0))) (List.range ts.length) fun k hk=>by
  have hk:k < ts.length:=by simpa using hk
  have e1:=(Aw hT (show k < n1 by omega)).1;have e2:=(Aw hU (ht _ (getD_mem hk))).1;simp only [BE,HQ,Rk,cond_true,Option.bind_some,sub_int,e1,e2,show ((1:Int) - 1)=0 by decide,iX]
 unfold AH;simp only [An,show decide ((1:Int)=0)=false by decide,Option.bind_some,Bool.false_eq_true,if_false,Xu];rw [Ah (by simp;omega),e];simp only [Option.bind_some,hp];rfl
theorem iW (m:Nat) (hT:Lf n1 T) (hU:Lf n2 U) (hl:ts.length<=n1) (hn:n1<=1000) (ht:∀ t∈ts,t < n2):AH (m+3) (.int 2) T U (tI ts)=some (.bl (Cs T U ts)):=by
 obtain ⟨ps,e,hp⟩:=NY (BE (AH (m+2)) (.int 2) T U (tI ts)) (fun k:Nat=>.tup [.int (k:Nat),.int (ts.getD k 0:Nat)]) (fun k=>BP (sub T k) (sub U (ts.getD k 0)) ts) (List.range ts.length) fun k hk=>by
  have hk:k < ts.length:=by simpa using hk
  obtain ⟨e1,r1⟩:=Bt hT (show k < n1 by omega);obtain ⟨e2,r2⟩:=Bt hU (ht _ (getD_mem hk));simp only [BE,HQ,Rk,cond_true,Option.bind_some,sub_int,e1,e2,show ((2:Int) - 1)=1 by decide,iA m r1 r2 hl hn ht]
 unfold AH;simp only [An,show decide ((2:Int)=0)=false by decide,Option.bind_some,Bool.false_eq_true,if_false,Xu];rw [Ah (by simp;omega),e];simp only [Option.bind_some,hp];rfl
end
section
variable {n1 n2 nf:Nat} {ds:List Dv} {one oth fx:Dv} {cs es:List Nat} {T U:List Dv} {ts:List Nat}
theorem MP (W1:Wl n1 nf ds one cs T) (W2:Wl n2 nf ds oth es U) (hl:ts.length<=n1) (hn:n1<=1000) (ht:∀ t∈ts,t < n2):Bj (.tup [fx,.tup ds]) one oth (tI ts)=some (.bl (la cs es ds T U ts)):=by
 have j1:AB (.tup [fx,.tup ds]) (.int 1)=some (.tup ds):=rfl;have z2:IB [tI cs,tI es]=some (zipD2 (nI cs) (nI es)):=rfl;have z3:GT [.tup ds,.tup T,.tup U]=some (zipD3 ds T U):=rfl;have h1:=Ec (τ:=Dv) (ρ:=Unit) (Ce (tI ts)) (fun z=>!Fg ts z) (.bl false) () (zipD2 (nI cs) (nI es)) fun z hz=>by
  obtain ⟨c,e,rfl,hc⟩:=KA hz;have fz:Fg ts (.tup [.int (c:Nat),.int (e:Nat)])=HZ ts c e:=by simp only [Fg,Int.toNat_natCast]
  have t1:CZ (tI ts) (.int (c:Nat)) (.int (e:Nat))=some (!Fg ts (.tup [.int (c:Nat),.int (e:Nat)])):=by
   rw [fz];unfold CZ HZ;simp only [QV,Option.bind_some,Cv]
   by_cases hh:c < ts.length
   ·have:(c:Int) < ((ts.length:Nat):Int):=by omega
    have h2:¬ ts.length<=c:=by omega
    simp only [this,h2,decide_true,decide_false,if_true,Bool.false_or,FS hh,Option.bind_some,Jq,Eh]
   ·have:¬ (c:Int) < ((ts.length:Nat):Int):=by omega
    have h2:ts.length<=c:=by omega
    simp only [this,h2,decide_true,decide_false,Bool.false_eq_true,if_false,Bool.true_or,Bool.not_true]
  simp only [Ce,HQ,Option.bind_some,t1]
  by_cases hb:(!Fg ts (.tup [.int (c:Nat),.int (e:Nat)]))=true
  ·rw [if_pos hb,if_pos hb]
  ·rw [if_neg hb,if_neg hb]
 have h2:=Ec (τ:=Dv) (ρ:=Unit) (Cd (tI ts)) (fun z=>!BL ts z) (.bl false) () (zipD3 ds T U) fun z hz=>by
  obtain ⟨a,r,t,u,rfl,hr,h1,h2⟩:=GB W1.2.2.2 W2.2.2.2 hz;have i1:AB (.tup [a,.int r]) (.int 1)=some (.int r):=rfl;have t1:AH 200 (.int r) t u (tI ts)=some (.bl (BL ts (.tup [.tup [a,.int r],t,u]))):=by
   rcases hr with rfl | rfl
   ·simp only [BL,if_true];exact iA 198 h1.one h2.one hl hn ht
   ·simp only [BL,show ¬ ((2:Int)=1) by decide,if_false];exact iW 197 h1.two h2.two hl hn ht
  simp only [Cd,bg,Option.bind_some,i1,t1,Rk,cond_true,QO]
  by_cases hb:(!BL ts (.tup [.tup [a,.int r],t,u]))=true
  ·rw [if_pos hb,if_pos hb]
  ·rw [if_neg hb,if_neg hb]
 unfold Bj la;simp only [W1.w1,W2.w1,W1.w2,W2.w2,j1,z2,z3,Option.bind_some];rw [h1,<- List.not_all_eq_any_not];cases (zipD2 (nI cs) (nI es)).all (Fg ts)
 ·rfl
 ·simp only [Bool.not_true,Bool.false_eq_true,if_false,Option.bind_some,Rs.el];rw [h2,<- List.not_all_eq_any_not];cases (zipD3 ds T U).all (BL ts)<;>rfl
theorem Rj {ts:List Nat} {t h v:Nat} (x:HZ (ts++[t]) h v=true):HZ ts h v=true:=by
 unfold HZ at x ⊢
 by_cases hh:ts.length<=h
 ·simp only [hh,decide_true,Bool.true_or]
 ·have h2:¬ (ts++[t]).length<=h:=by rw [List.length_append];simp;omega
  have e:(ts++[t]).getD h 0=ts.getD h 0:=by simp [List.getD,List.getElem?_append_left (show h < ts.length by omega)]
  simp only [h2,decide_false,Bool.false_or,e] at x;simp only [x,Bool.or_true]
theorem Kw {T U:Dv} {ts:List Nat} {t:Nat} (f:List Nat) (hf:f=ts++[t]) (x:(List.range f.length).all (fun k=>HZ f (Dx T k) (Dx U (f.getD k 0)))=true):BP T U ts=true:=by
 subst hf;unfold BP;rw [List.all_eq_true] at x ⊢;intro k hk;have hk:k < ts.length:=by simpa using hk
 have:=Rj (x k (by simp;omega));have e:(ts++[t]).getD k 0=ts.getD k 0:=by simp [List.getD,List.getElem?_append_left hk]
 rw [e] at this;exact this
theorem dX {t:Nat} (x:la cs es ds T U (ts++[t])=true):la cs es ds T U ts=true:=by
 unfold la at x ⊢;rw [Bool.and_eq_true,List.all_eq_true,List.all_eq_true] at x ⊢;refine ⟨fun z hz=>?_,fun z hz=>?_⟩
 ·have:=x.1 z hz;unfold Fg at this ⊢;split at this
  ·exact Rj this
  ·rfl
 ·have:=x.2 z hz;unfold BL at this ⊢;split at this
  ·split at this
   ·rename_i hr;rw [if_pos hr];exact Kw _ rfl this
   ·rename_i hr;rw [if_neg hr];unfold Cs at this ⊢;rw [List.all_eq_true] at this ⊢;intro k hk;have hk:k < ts.length:=by simpa using hk
    have y:=this k (by simp;omega);have e:(ts++[t]).getD k 0=ts.getD k 0:=by simp [List.getD,List.getElem?_append_left hk]
    rw [e] at y;exact Kw _ rfl y
  ·rfl
end
theorem Ed {α τ ρ:Type} (g:Dv->Unit->Option (Lp τ Unit ρ)) (f:α->Dv) (p:α->Bool) (d:τ) (r:ρ):∀ (xs:List α),(∀ x∈xs,g (f x) ()=some (if (!p x)=true then .rt d r else .go ()))->Bp g (xs.map f) ()=some (if (!xs.all p)=true then .rt d r else .go ())
 | [],_=>rfl
 | x::xs,h=>by
  have ih:=Ed g f p d r xs fun y hy=>h y (List.mem_cons_of_mem _ hy)
  simp only [List.map_cons,Bp,h x List.mem_cons_self,Option.bind_some,List.all_cons]
  by_cases q:p x=true
  ·simp only [q,Bool.not_true,Bool.false_eq_true,if_false,Bool.true_and];exact ih
  ·have q:p x=false:=by simpa using q
   simp only [q,Bool.not_false,if_true,Bool.false_and]
theorem ED {α:Type} (g:Dv->Option Dv) (f h:α->Dv):∀ (xs:List α),(∀ x∈xs,g (f x)=some (h x))->BO g (xs.map f)=some (xs.map h)
 | [],_=>rfl
 | x::xs,e=>by simp only [List.map_cons,BO,e x List.mem_cons_self,ED g f h xs fun y hy=>e y (List.mem_cons_of_mem _ hy),Option.bind_some]
theorem EM:∀ ts:List Nat,BB (nI ts)=true
 | []=>rfl
 | t::ts=>by have:=EM ts;simp only [nI] at this;simp only [nI,List.map_cons,BB,Dv.cmp,this,Bool.and_self]
theorem EL:∀ ts:List Nat,By (nI ts)=0
 | []=>rfl
 | t::ts=>by have:=EL ts;simp only [nI] at this;simp only [nI,List.map_cons,By,Dv.dep,this];rfl
theorem Ja:∀ a b:List Nat,R.eqVs (nI a) (nI b)=decide (a=b)
 | [],[]=>rfl
 | [],b::bs=>rfl
 | a::as,[]=>rfl
 | a::as,b::bs=>by
  have:=Ja as bs;simp only [nI] at this;simp only [nI,List.map_cons,R.eqVs,R.eqV,this,List.cons.injEq]
  by_cases e:a=b
  ·subst e;simp
  ·have:((a:Int) == (b:Int))=false:=beq_eq_false_iff_ne.mpr (by omega);simp [e,this]
theorem bH (a b:List Nat):Wu (.lst (nI a)) (.lst (nI b))=some (!decide (a=b)):=by
 simp only [Js,Dv.cmp,Dv.dep,EM,EL,Bool.and_self,Nat.reduceAdd,Nat.reduceLeDiff,decide_true,if_true,R.eqV,Ja]
theorem mul_int (i j:Int) (h:big j=true):CO (.int i) (.int j)=some (.int (i * j)):=by simp only [CO,h,Bool.or_true,if_true]
section
variable {n1 n2 nf:Nat} {ds:List Dv} {one oth fx:Dv} {cs es:List Nat} {T U:List Dv} {ts:List Nat}
theorem Gf {ts:List Nat} {h v:Nat} (hh:h < ts.length):HZ ts h v=decide (ts.getD h 0=v):=by
 have:¬ ts.length<=h:=by omega
 simp only [HZ,this,decide_false,Bool.false_or]
theorem DE {ts:List Nat}:∀ {cs es:List Nat},cs.length=es.length->(∀ c∈cs,c < ts.length)->decide (cs.map (fun c=>ts.getD c 0)=es)=(zipD2 (nI cs) (nI es)).all (Fg ts)
 | [],[],_,_=>rfl
 | [],_::_,h,_=>by simp at h
 | _::_,[],h,_=>by simp at h
 | c::cs,e::es,hl,hc=>by
  have ih:=DE (ts:=ts) (cs:=cs) (es:=es) (by simpa using hl) fun x hx=>hc x (List.mem_cons_of_mem _ hx)
  simp only [nI] at ih;simp only [nI,List.map_cons,zipD2,List.all_cons,<- ih,Fg,Int.toNat_natCast,Gf (hc c List.mem_cons_self),List.cons.injEq]
  by_cases h:ts.getD c 0=e<;>simp [h]
theorem Zx {x1 x3 x4 x5 x6 it:Dv} (h22:BX x3 x4 x5 x6 it=some true):Au x1 x3 x4 x5 x6 it ()=some (Lp.rt (.bl false) ()):=by
 unfold Au;simp only [h22,Option.bind_some,if_true]
theorem SD {x1 x3 x4 x5 x6 it t23 t24 t25 t26:Dv} {t27:List Dv} {l:Rs Dv Unit Unit} (h22:BX x3 x4 x5 x6 it=some false) (h23:AB x1 (.int 0)=some t23) (h24:AB x4 (.int 1)=some t24) (h25:Mq t24 (.int 1)=some t25) (h26:CO t23 t25=some t26) (h27:BM [t26]=some t27)
    (h28:Bp (Dg x3 x5 x6 it) t27 ()=some l):Au x1 x3 x4 x5 x6 it ()=l.el (fun _=>some (Lp.go ())) fun d r=>some (Lp.rt d ()):=by
  unfold Au;simp only [h22,h23,h24,h25,h26,h27,h28,Option.bind_some,Bool.false_eq_true,if_false]
theorem da {th a t u:Dv} (ha:∀ h,h < ts.length->AB th (.int (h:Nat))=some (.int (ts.getD h 0:Nat))) (W1:Wl n1 nf ds one cs T) (hl:ts.length=n1) (hn:n1<=1000) (ht:∀ t∈ts,t < n2) (h1:Tab n1 1 t) (h2:Tab n2 1 u) :
    Bp (τ:=Dv) (ρ:=Unit) (Au one th (.tup [a,.int 1]) t u) ((List.range n1).map fun k=>.int (k:Nat)) ()=some (if (!BP t u ts)=true then .rt (.bl false) () else .go ()):=by
  have i1:AB (.tup [a,.int 1]) (.int 1)=some (.int 1):=rfl;have:=Ed (τ:=Dv) (ρ:=Unit) (Au one th (.tup [a,.int 1]) t u) (fun k:Nat=>Dv.int (k:Nat)) (fun k=>HZ ts (Dx t k) (Dx u (ts.getD k 0))) (.bl false) () (List.range n1) fun k hk=>by
    have hk:k < n1:=by simpa using hk
    obtain ⟨e1,b1⟩:=Aw h1.one hk;have hk':k < ts.length:=by omega
    obtain ⟨e2,b2⟩:=Aw h2.one (ht _ (getD_mem hk'));have b1':Dx t k < ts.length:=by omega
    have t1:BX th (.tup [a,.int 1]) t u (.int (k:Nat))=some (!HZ ts (Dx t k) (Dx u (ts.getD k 0))):=by
      rw [Gf b1'];simp only [BX,i1,Option.bind_some,An,decide_true,if_true,e1,ha _ b1',ha _ hk',e2,Jq,Eh]
    have e0:Mq (.int 1) (.int 1)=some (.int 0):=rfl;have e5:CO (.int (n1:Nat)) (.int 0)=some (.int 0):=by rw [mul_int _ _ (show big 0=true by decide),Int.mul_zero]
    have r0:BM [.int 0]=some []:=HX 0 (by decide);cases hb:HZ ts (Dx t k) (Dx u (ts.getD k 0)) with
    | false=>rw [hb] at t1;exact Zx t1
    | true=>rw [hb] at t1;exact SD t1 W1.w0 i1 e0 e5 r0 rfl
  rw [this];simp only [BP,hl]
theorem dZ {th a t u:Dv} (ha:∀ h,h < ts.length->AB th (.int (h:Nat))=some (.int (ts.getD h 0:Nat))) (W1:Wl n1 nf ds one cs T) (hl:ts.length=n1) (hn:n1<=1000) (ht:∀ t∈ts,t < n2) (h1:Tab n1 2 t) (h2:Tab n2 2 u) :
    Bp (τ:=Dv) (ρ:=Unit) (Au one th (.tup [a,.int 2]) t u) ((List.range n1).map fun k=>.int (k:Nat)) ()=some (if (!Cs t u ts)=true then .rt (.bl false) () else .go ()):=by
  have i1:AB (.tup [a,.int 2]) (.int 1)=some (.int 2):=rfl;have:=Ed (τ:=Dv) (ρ:=Unit) (Au one th (.tup [a,.int 2]) t u) (fun k:Nat=>Dv.int (k:Nat)) (fun k=>BP (sub t k) (sub u (ts.getD k 0)) ts) (.bl false) () (List.range n1) fun k hk=>by
    have hk:k < n1:=by simpa using hk
    have hk':k < ts.length:=by omega
    obtain ⟨e1,r1⟩:=Bt h1.two hk;obtain ⟨e2,r2⟩:=Bt h2.two (ht _ (getD_mem hk'));have inn:=Ed (τ:=Dv) (ρ:=Unit) (Dg th t u (.int (k:Nat))) (fun b:Nat=>Dv.int (b:Nat)) (fun b=>HZ ts (Dx (sub t k) b) (Dx (sub u (ts.getD k 0)) (ts.getD b 0))) (.bl false) () (List.range n1) fun b hb=>by
      have hb:b < n1:=by simpa using hb
      have hb':b < ts.length:=by omega
      obtain ⟨e3,b3⟩:=Aw r1 hb;obtain ⟨e4,b4⟩:=Aw r2 (ht _ (getD_mem hb'));have b3':Dx (sub t k) b < ts.length:=by omega
      rw [Gf b3'];simp only [Dg,e1,e3,ha _ b3',ha _ hk',e2,ha _ hb',e4,Option.bind_some,Jq,Eh]
      by_cases hq:(!decide (ts.getD (Dx (sub t k) b) 0=Dx (sub u (ts.getD k 0)) (ts.getD b 0)))=true
      · rw [if_pos hq,if_pos hq]
      · rw [if_neg hq,if_neg hq]
    have t1:BX th (.tup [a,.int 2]) t u (.int (k:Nat))=some false:=by
      simp only [BX,i1,Option.bind_some,An,show decide ((2:Int)=1)=false by decide,Bool.false_eq_true,if_false]
    have e0:Mq (.int 2) (.int 1)=some (.int 1):=rfl;have e5:CO (.int (n1:Nat)) (.int 1)=some (.int (n1:Nat)):=by rw [mul_int _ _ (show big 1=true by decide),Int.mul_one]
    have r0:=HX n1 (by omega);refine (SD t1 W1.w0 i1 e0 e5 r0 inn).trans ?_;have le:BP (sub t k) (sub u (ts.getD k 0)) ts=(List.range n1).all fun b=>HZ ts (Dx (sub t k) b) (Dx (sub u (ts.getD k 0)) (ts.getD b 0)):=by unfold BP;rw [hl]
    rw [le]
    by_cases hq:(!(List.range n1).all fun b=>HZ ts (Dx (sub t k) b) (Dx (sub u (ts.getD k 0)) (ts.getD b 0)))=true
    · rw [if_pos hq,if_pos hq];rfl
    · rw [if_neg hq,if_neg hq];rfl
  rw [this];simp only [Cs,hl]
theorem Kx {th:Dv} (ha:∀ h,h < ts.length->AB th (.int (h:Nat))=some (.int (ts.getD h 0:Nat))) (hnf:nf<=1000) (W1:Wl n1 nf ds one cs T) (W2:Wl n2 nf ds oth es U) (hl:ts.length=n1) (hn:n1<=1000) (ht:∀ t∈ts,t < n2):DA (.tup [fx,.tup ds]) one oth th=some (.bl (la cs es ds T U ts)):=by
 have j1:AB (.tup [fx,.tup ds]) (.int 1)=some (.tup ds):=rfl;have z3:GT [.tup ds,.tup T,.tup U]=some (zipD3 ds T U):=rfl;have i1:items (tI cs)=some (nI cs):=rfl;have l1:HK (tI es)=some (.lst (nI es)):=rfl;have hcs:∀ c∈cs,c < ts.length:=fun c hc=>by rw [hl];exact W1.2.2.1 c hc
 have m1:BO (Cq th) (nI cs)=some (nI (cs.map fun c=>ts.getD c 0)):=by
  have:=ED (Cq th) (fun c:Nat=>Dv.int (c:Nat)) (fun c:Nat=>Dv.int (ts.getD c 0:Nat)) cs fun c hc=>by
   simp only [Cq,ha _ (hcs c hc),Option.bind_some]
  have e:BO (Cq th) (nI cs)=some (nI (cs.map fun c=>ts.getD c 0)):=by
   unfold nI;rw [this,List.map_map];rfl
  exact e
 have h2:=Ec (τ:=Dv) (ρ:=Unit) (FE one th) (fun z=>!BL ts z) (.bl false) () (zipD3 ds T U) fun z hz=>by
  obtain ⟨a,r,t,u,rfl,hr,h1,h2⟩:=GB W1.2.2.2 W2.2.2.2 hz;have i1:AB (.tup [a,.int r]) (.int 1)=some (.int r):=rfl;have go:Bp (Au one th (.tup [a,.int r]) t u) ((List.range n1).map fun k=>.int (k:Nat)) ()=some (if (!BL ts (.tup [.tup [a,.int r],t,u]))=true then .rt (.bl false) () else .go ()):=by
   rcases hr with rfl | rfl
   ·have e:BL ts (.tup [.tup [a,.int 1],t,u])=BP t u ts:=rfl;rw [e];exact da ha W1 hl hn ht h1 h2
   ·have e:BL ts (.tup [.tup [a,.int 2],t,u])=Cs t u ts:=rfl;rw [e];exact dZ ha W1 hl hn ht h1 h2
  simp only [FE,bg,Option.bind_some,W1.w0,HX n1 (by omega),go]
  by_cases hb:(!BL ts (.tup [.tup [a,.int r],t,u]))=true
  ·rw [if_pos hb,if_pos hb];rfl
  ·rw [if_neg hb,if_neg hb];rfl
 unfold DA la;simp only [W1.w1,Option.bind_some,i1];rw [Ah (by rw [Bo,W1.2.1];exact Nat.le_trans hnf (by decide))];simp only [W2.w1,W1.w2,W2.w2,j1,z3,m1,l1,Option.bind_some,bH];rw [DE (by rw [W1.2.1,W2.2.1]) hcs];cases (zipD2 (nI cs) (nI es)).all (Fg ts)
 ·rfl
 ·simp only [Bool.not_true,Bool.false_eq_true,if_false];rw [h2,<- List.not_all_eq_any_not];cases (zipD3 ds T U).all (BL ts)<;>rfl
theorem MQ (hnf:nf<=1000) (W1:Wl n1 nf ds one cs T) (W2:Wl n2 nf ds oth es U) (hl:ts.length=n1) (hn:n1<=1000) (ht:∀ t∈ts,t < n2):DA (.tup [fx,.tup ds]) one oth (tI ts)=some (.bl (la cs es ds T U ts)):=Kx (fun _ h=>FS h) hnf W1 W2 hl hn ht
end
noncomputable def ext (L:List (List Nat)) (n:Nat):List (List Nat):=L.flatMap fun r=>(List.range n).map fun t=>r++[t]
def rows (n:Nat):Nat->List (List Nat)
 | 0=>[[]]
 | k+1=>ext (rows n k) n
theorem Fu (n:Nat):∀ L:List (List Nat),(ext L n).length=L.length * n
 | []=>by simp [ext]
 | x::L=>by have:=Fu n L;unfold ext at this ⊢;rw [List.flatMap_cons,List.length_append,this,List.length_cons,Nat.add_mul];simp;omega
theorem KR (n:Nat):∀ k,(rows n k).length=n ^ k
 | 0=>rfl
 | k+1=>by unfold rows;rw [Fu,KR n k,Nat.pow_succ]
theorem KS {n k:Nat} (hn:n<=4) (hk:k<=4):(rows n k).length<=256:=by
 rw [KR];exact Nat.le_trans (Nat.pow_le_pow_left hn k) (Nat.le_trans (Nat.pow_le_pow_right (by decide) hk) (by decide))
theorem Bl {n:Nat}:∀ {k:Nat} {r:List Nat},r∈rows n k->r.length=k/\∀ t∈r,t < n
 | 0,r,h=>by
  have:r=[]:=by simpa [rows] using h
  subst this;exact ⟨rfl,fun _ z=>by cases z⟩
 | k+1,r,h=>by
  unfold rows ext at h;obtain ⟨x,hx,h⟩:=List.mem_flatMap.mp h;obtain ⟨t,ht,rfl⟩:=List.mem_map.mp h;obtain ⟨a,b⟩:=Bl hx;refine ⟨by simp [a],fun y hy=>?_⟩;rcases List.mem_append.mp hy with hy | hy
  ·exact b y hy
  ·rw [List.mem_singleton] at hy;subst hy;simpa using ht
theorem Gz {n:Nat} (q:List Nat->Bool) (hq:∀ r t,q (r++[t])=true->q r=true):∀ L:List (List Nat),(ext (L.filter q) n).filter q=(ext L n).filter q
 | []=>rfl
 | x::L=>by
  have ih:=Gz (n:=n) q hq L;unfold ext at ih ⊢;cases h:q x with
  | true=>rw [List.filter_cons_of_pos h,List.flatMap_cons,List.flatMap_cons,List.filter_append,List.filter_append,ih]
  | false =>
   rw [List.filter_cons_of_neg (by simp [h]),List.flatMap_cons,List.filter_append,ih];have:((List.range n).map fun t=>x++[t]).filter q=[]:=by
    rw [List.filter_eq_nil_iff];intro y hy hq';obtain ⟨t,_,rfl⟩:=List.mem_map.mp hy;rw [hq x t hq'] at h;cases h
   rw [this,List.nil_append]
theorem FN {α:Type} (g:Dv->Dv->Option Dv) (f:α->Dv) (h:α->List Dv) (B:Nat):∀ (xs:List α) (acc:List Dv),(∀ x∈xs,∀ acc,acc.length+(h x).length<=B->g (f x) (.lst acc)=some (.lst (acc++h x)))->acc.length+(xs.flatMap h).length<=B->BI g (xs.map f) (.lst acc)=some (.lst (acc++xs.flatMap h))
 | [],acc,_,_=>by simp [BI]
 | x::xs,acc,hg,hl=>by
  rw [List.flatMap_cons,List.length_append] at hl;simp only [List.map_cons,BI,hg x List.mem_cons_self acc (by omega),Option.bind_some];rw [FN g f h B xs (acc++h x) (fun y hy=>hg y (List.mem_cons_of_mem _ hy)) (by rw [List.length_append];omega),List.flatMap_cons,List.append_assoc]
theorem YB {r:List Nat} {t:Nat} (h:r.length<=1000):BA (tI r) (.tup [.int (t:Nat)])=some (tI (r++[t])):=by
 unfold tI;rw [Rn];simp only [BA,Bo];rw [if_pos (by simp;omega)];rfl
theorem Kv {L:List (List Nat)} {n:Nat} (hn:n<=1000) (hr:∀ r∈L,r.length<=1000) (hl:L.length * n<=1000000):BN (.lst (L.map tI)) (.int (n:Nat))=some (.lst ((ext L n).map tI)):=by
 have e:L.flatMap (fun r=>(List.range n).map fun t=>tI (r++[t]))=(ext L n).map tI:=by simp only [ext,List.map_flatMap,List.map_map,Function.comp_def]
 have:=FN (CF (.int (n:Nat))) tI (fun r=>(List.range n).map fun t=>tI (r++[t])) 1000000 L [] (fun r hr' acc hb=>by
  have m:=ED (CD (tI r)) (fun t:Nat=>Dv.int (t:Nat)) (fun t=>tI (r++[t])) (List.range n) fun t _=>by
   simp only [CD,YB (hr r hr'),Option.bind_some]
  simp only [List.length_map,List.length_range] at hb;unfold CF;rw [JO,HX n (by omega)];simp only [Option.bind_some];rw [Ah (by simp;omega),m];simp only [Option.bind_some,Xj (show acc.length+((List.range n).map fun t=>tI (r++[t])).length<=1000000 by simp;omega)]) (by rw [e,List.length_map,Fu];simpa using hl)
 unfold BN;simp only [items,Option.bind_some];rw [this,e];rfl
noncomputable def Ux (L:List (List Nat)) (n:Nat):List (List Nat×Nat):=L.flatMap fun r=>(List.range n).map fun t=>(r,t)
theorem JD (n:Nat):∀ L:List (List Nat),(Ux L n).length=L.length * n
 | []=>by simp [Ux]
 | x::L=>by have:=JD n L;unfold Ux at this ⊢;rw [List.flatMap_cons,List.length_append,this,List.length_cons,Nat.add_mul];simp;omega
theorem PJ {L:List (List Nat)} {n:Nat} (hn:n<=1000) (hl:L.length * n<=1000000):CJ (.lst (L.map tI)) (.int (n:Nat))=some (.lst ((Ux L n).map fun p=>.tup [tI p.1,.int (p.2:Nat)])):=by
 have e:L.flatMap (fun r=>(List.range n).map fun t=>Dv.tup [tI r,.int (t:Nat)])=(Ux L n).map fun p=>.tup [tI p.1,.int (p.2:Nat)]:=by simp only [Ux,List.map_flatMap,List.map_map,Function.comp_def]
 have:=FN (Cy (.int (n:Nat))) tI (fun r=>(List.range n).map fun t=>Dv.tup [tI r,.int (t:Nat)]) 1000000 L [] (fun r hr' acc hb=>by
  have m:=ED (ER (tI r)) (fun t:Nat=>Dv.int (t:Nat)) (fun t=>Dv.tup [tI r,.int (t:Nat)]) (List.range n) fun t _=>rfl
  simp only [List.length_map,List.length_range] at hb;unfold Cy;rw [JO,HX n (by omega)];simp only [Option.bind_some];rw [Ah (by simp;omega),m];simp only [Option.bind_some,Xj (show acc.length+((List.range n).map fun t=>Dv.tup [tI r,.int (t:Nat)]).length<=1000000 by simp;omega)]) (by rw [e,List.length_map,JD];simpa using hl)
 unfold CJ;simp only [items,Option.bind_some];rw [this,e];rfl
theorem Gw {P:Nat->Dv->Prop} (g:Dv->Dv->Option Dv) (n:Nat) (c:Dv) (h0:P 0 c) (h:∀ i < n,∀ c,P i c->∃ c',g (.int (i:Nat)) c=some c'/\P (i+1) c'):∃ c',BI g ((List.range n).map fun k=>.int (k:Nat)) c=some c'/\P n c':=by
 obtain ⟨c',e,p⟩:=Gy g P ((List.range n).map fun k=>.int (k:Nat)) 0 c h0 fun i x hx c hc=>by
  rw [List.getElem?_map] at hx;have hi:i < n:=by
   rcases Nat.lt_or_ge i n with h | h
   ·exact h
   ·rw [List.getElem?_eq_none (by simp;omega)] at hx;cases hx
  rw [List.getElem?_eq_getElem (by simp;omega)] at hx;simp only [Option.map_some,Option.some.injEq,List.getElem_range] at hx;subst hx;rw [Nat.zero_add] at hc ⊢;exact h i hi c hc
 exact ⟨c',e,by simpa using p⟩
theorem OT {n m:Nat} (hn:n<=4) (hm:m<=4):GV (.int (n:Nat)) (.int (m:Nat))=some (.lst ((rows n m).map tI)):=by
 obtain ⟨c,e,rfl⟩:=Gw (P:=fun i c=>c=.lst ((rows n i).map tI)) (GS (.int (n:Nat))) m (.lst [.tup []]) rfl fun i hi c hc=>by
  subst hc;have hf:=KS hn (show i<=4 by omega);have hl:(rows n i).length * n<=1000000:=Nat.le_trans (Nat.mul_le_mul hf hn) (by decide);refine ⟨_,?_,rfl⟩;have e:(Ux (rows n i) n).map (fun p=>tI (p.1++[p.2]))=(rows n (i+1)).map tI:=by
   simp only [rows,ext,Ux,List.map_flatMap,List.map_map,Function.comp_def]
  have m:=ED GQ (fun p:List Nat×Nat=>Dv.tup [tI p.1,.int (p.2:Nat)]) (fun p=>tI (p.1++[p.2])) (Ux (rows n i) n) fun p hp=>by
   have:p.1.length<=1000:=by
    obtain ⟨r,hr,hp⟩:=List.mem_flatMap.mp hp;obtain ⟨t,_,rfl⟩:=List.mem_map.mp hp;have:=(Bl hr).1;show r.length<=1000;omega
   simp only [GQ,HQ,Option.bind_some,YB this]
  unfold GS;rw [PJ (by omega) hl];simp only [Option.bind_some,items];rw [Ah (by rw [List.length_map,JD];exact hl),m,e];rfl
 unfold GV;rw [HX m (by omega)];simp only [Option.bind_some];rw [e];rfl
theorem FV {α:Type} (g:Dv->Option (Option Dv)) (f:α->Dv) (q:α->Bool):∀ (xs:List α),(∀ x∈xs,g (f x)=some (if q x=true then some (f x) else none))->Ot g (xs.map f)=some ((xs.filter q).map f)
 | [],_=>rfl
 | x::xs,h=>by
  have ih:=FV g f q xs fun y hy=>h y (List.mem_cons_of_mem _ hy)
  simp only [List.map_cons,Ot,h x List.mem_cons_self,ih,Option.bind_some];cases e:q x with
  | true=>rw [List.filter_cons_of_pos e];rfl
  | false=>rw [List.filter_cons_of_neg (by simp [e])];rfl
section
variable {n1 n2 nf:Nat} {ds:List Dv} {one oth fx:Dv} {cs es:List Nat} {T U:List Dv}
theorem Zv:la cs es ds T U []=true:=by
 unfold la;rw [Bool.and_eq_true,List.all_eq_true,List.all_eq_true];refine ⟨fun z _=>?_,fun z _=>?_⟩
 ·unfold Fg;split
  ·simp [HZ]
  ·rfl
 ·unfold BL;split
  ·split<;>rfl
  ·rfl
theorem MK (W1:Wl n1 nf ds one cs T) (W2:Wl n2 nf ds oth es U) (h1:n1<=4) (h2:n2<=4):GU (.tup [fx,.tup ds]) one oth=some (.lst (((rows n2 n1).filter (la cs es ds T U)).map tI)):=by
 obtain ⟨c,e,rfl⟩:=Gw (P:=fun i c=>c=.lst (((rows n2 i).filter (la cs es ds T U)).map tI)) (GR (.tup [fx,.tup ds]) one oth) n1 (.lst [.tup []]) (by simp only [rows];rw [List.filter_cons_of_pos Zv];rfl) fun i hi c hc=>by
  subst hc;have hf:=KS h2 (show i<=4 by omega);have hfl:((rows n2 i).filter (la cs es ds T U)).length<=256:=Nat.le_trans (List.length_filter_le _ _) hf;have hl:((rows n2 i).filter (la cs es ds T U)).length * n2<=1000000:=Nat.le_trans (Nat.mul_le_mul hfl h2) (by decide);refine ⟨_,?_,rfl⟩;have rm:∀ r∈ext ((rows n2 i).filter (la cs es ds T U)) n2,r.length=i+1/\∀ t∈r,t < n2:=fun r hr=>by
   have:r∈rows n2 (i+1):=by
    unfold rows ext;unfold ext at hr;obtain ⟨x,hx,h⟩:=List.mem_flatMap.mp hr;exact List.mem_flatMap.mpr ⟨x,(List.mem_filter.mp hx).1,h⟩
   exact Bl this
  have m:=FV (GP (.tup [fx,.tup ds]) one oth) tI (la cs es ds T U) (ext ((rows n2 i).filter (la cs es ds T U)) n2) fun r hr=>by
   obtain ⟨a,b⟩:=rm r hr;unfold GP;rw [MP (fx:=fx) W1 W2 (show r.length<=n1 by omega) (by omega) b];simp only [Option.bind_some,Rk,cond_true,QO];split<;>rfl
  unfold GR;rw [W2.w0];simp only [Option.bind_some];rw [Kv (by omega) (fun r hr=>by have:=(Bl (List.mem_filter.mp hr).1).1;omega) hl];simp only [Option.bind_some,items];rw [Ah (by rw [List.length_map,Fu];exact hl),m,Gz (la cs es ds T U) (fun r t h=>dX h)];rfl
 unfold GU;rw [W1.w0];simp only [Option.bind_some];rw [HX n1 (by omega)];simp only [Option.bind_some];rw [e];rfl
end
theorem KD {γ:Type} (t:γ->Option Bool) (g:γ->Option γ) (P:Nat->γ->Prop) (h0:∀ c,P 0 c->t c=some false) (hs:∀ m c,P (m+1) c->t c=some true/\∃ c',g c=some c'/\P m c'):∀ (m n:Nat) (c:γ),m < n->P m c->∃ c',UO t g n c=some c'/\P 0 c'
 | m,0,c,h,_=>by omega
 | 0,n+1,c,_,p=>⟨c,by simp only [UO,h0 c p,Option.bind_some,Bool.false_eq_true,if_false],p⟩
 | m+1,n+1,c,h,p=>by
  obtain ⟨e1,c1,e2,p1⟩:=hs m c p;obtain ⟨c2,e3,p2⟩:=KD t g P h0 hs m n c1 (by omega) p1;exact ⟨c2,by simp only [UO,e1,Option.bind_some,if_true,e2,e3],p2⟩
theorem RU {ts:List Nat} {r:Nat} (h:r < ts.length) (hl:ts.length<=1000):EJ (.lst (nI ts)) [.int (r:Nat)]=some (.int (ts.getD r 0:Nat),.lst (nI (ts.eraseIdx r))):=by
 have s:seqIndex? (r:Int) (nI ts).length=some r:=by
  unfold seqIndex?;rw [Bo];have h1:¬ (r:Int) < 0:=by omega
  have h2:(0:Int)<=(r:Int):=by omega
  have h3:(r:Int) < (ts.length:Int):=by omega
  simp only [h1,if_false,h2,h3,decide_true,Bool.and_self,if_true,Int.toNat_natCast]
 have g:(nI ts)[r]?=some (.int (ts.getD r 0:Nat)):=by simp [nI,List.getD,h]
 have e:(nI ts).eraseIdx r=nI (ts.eraseIdx r):=by simp only [nI,List.eraseIdx_eq_take_drop_succ,List.map_append,List.map_take,List.map_drop]
 simp only [EJ];rw [if_pos (show R.small (r:Int)=true by unfold R.small;simp;omega),s];simp only [Option.bind_some,g,Option.map_some,e]
theorem Sh {ts:List Nat} {r x:Nat} (hr:r < ts.length) (h:x∈ts):x∈ts.eraseIdx r\/x=ts.getD r 0:=by
 obtain ⟨i,hi,rfl⟩:=List.mem_iff_getElem.mp h
 by_cases e:i=r
 ·subst e;right;simp [List.getD,hi]
 ·left;rw [List.mem_eraseIdx_iff_getElem];exact ⟨i,hi,e,rfl⟩
def fj (n:Nat) (ts:List Nat):Prop:=ts.length=n/\(∀ t∈ts,t < n)/\∀ t < n,t∈ts
theorem Uh {x0 x1 t1 t9:Dv} {c8:Dv×Dv×Dv} (h1:BU [x1]=some t1) (h2:UO Aa Ab 1000000 (x0,t1,.lst [])=some c8) (h3:AK c8.2.2=some t9):BZ x0 x1=some (t9,c8.1):=by
 unfold BZ;simp only [h1,h2,h3,Option.bind_some]
theorem Rz (ts:List Nat):Bx (.lst (nI ts))=some (.int (ts.length:Nat)):=by show some (Dv.int ((nI ts).length:Nat))=_;rw [Bo]
theorem Qq (f:Dv) (left found:List Nat):Aa (f,.lst (nI left),.lst (nI found))=some (decide (0 < left.length)):=by
 unfold Aa;simp only [Rz,Option.bind_some,Cv];congr 1;exact decide_eq_decide.mpr (by omega)
theorem Qs {c1 t2 r f' y l' l2 u:Dv} {x2 x3:List Dv} (h2:Bx (.lst x2)=some t2) (h3:AS c1 t2=some (r,f')) (h4:EJ (.lst x2) [r]=some (y,l')) (h5:Ao (.lst x3) [y]=some (u,l2)):Ab (c1,.lst x2,.lst x3)=some (f',l',l2):=by
 unfold Ab;simp only [JO,h2,h3,h4,h5,Option.bind_some]
theorem Yb {f:Dv} (hf:Fd f) {left found:List Nat} (h0:0 < left.length) (hl:left.length<=1000) (hl2:found.length<=1000):∃ (r:Nat) (f':Dv),Ab (f,.lst (nI left),.lst (nI found))=some (f',.lst (nI (left.eraseIdx r)),.lst (nI (found++[left.getD r 0])))/\r < left.length/\Fd f':=by
 obtain ⟨r,f',e,b,hf'⟩:=AM hf (n:=((left.length:Nat):Int)) (by omega) (by omega);have hr:r < left.length:=by omega
 refine ⟨r,f',?_,hr,hf'⟩;have e2:Ao (.lst (nI found)) [.int (left.getD r 0:Nat)]=some (.non,.lst (nI (found++[left.getD r 0]))):=by
  rw [HG (by rw [Bo];omega),Rn];rfl
 exact Qs (Rz left) e (RU hr hl) e2
def fH (n m:Nat) (c:Dv×Dv×Dv):Prop:=∃ f left found,c=(f,.lst (nI left),.lst (nI found))/\Fd f/\left.length=m/\found.length+m=n/\(∀ t < n,t∈left\/t∈found)/\(∀ t∈left,t < n)/\∀ t∈found,t < n
theorem Ug {n m:Nat} (hn:n<=1000) {c:Dv×Dv×Dv} (h:fH n (m+1) c):Aa c=some true/\∃ c',Ab c=some c'/\fH n m c':=by
 obtain ⟨f,left,found,rfl,hf,hl,h1,h2,h3,h4⟩:=h;refine ⟨by rw [Qq,decide_eq_true (by omega)],?_⟩;obtain ⟨r,f',e,hr,hf'⟩:=Yb hf (left:=left) (found:=found) (by omega) (by omega) (by omega);refine ⟨_,e,f',left.eraseIdx r,found++[left.getD r 0],rfl,hf',by rw [List.length_eraseIdx_of_lt hr];omega,by simp;omega,fun t ht=>?_,fun t ht=>h3 t (List.mem_of_mem_eraseIdx ht),fun t ht=>?_⟩
 ·rcases h2 t ht with h | h
  ·rcases Sh hr h with h | h
   ·exact .inl h
   ·exact .inr (by rw [h];simp)
  ·exact .inr (List.mem_append_left _ h)
 ·rcases List.mem_append.mp ht with h | h
  ·exact h4 t h
  ·rw [List.mem_singleton] at h;rw [h];exact h3 _ (getD_mem hr)
theorem Qr {n:Nat} {c:Dv×Dv×Dv} (h:fH n 0 c):Aa c=some false:=by
 obtain ⟨f,left,found,rfl,hf,hl,h1⟩:=h;rw [Qq,decide_eq_false (by omega)]
theorem Ue {n N:Nat} (hn:n<=1000) (hN:n < N) {f:Dv} (hf:Fd f):∃ c',UO Aa Ab N (f,.lst (nI (List.range n)),.lst [])=some c'/\fH n 0 c':=
 KD Aa Ab (fH n) (fun _ h=>Qr h) (fun _ _ h=>Ug hn h) n N _ hN ⟨f,List.range n,[],rfl,hf,by simp,by simp,fun t ht=>.inl (by simpa using ht),fun t ht=>by simpa using ht,fun t h=>by cases h⟩
theorem Gk (n:Nat) (hn:n<=1000):BU [.int (n:Nat)]=some (.lst (nI (List.range n))):=by
 have sm:R.small (n:Int)=true:=by unfold R.small;simp;omega
 simp only [BU];rw [if_pos ⟨sm,by omega⟩];simp [nI]
theorem HW {f:Dv} (hf:Fd f) {n:Nat} (hn:n<=1000):∃ ts f',BZ f (.int (n:Nat))=some (tI ts,f')/\fj n ts/\Fd f':=by
 obtain ⟨c,e,f',left,found,rfl,hf',hl,h1,h2,h3,h4⟩:=Ue (N:=1000000) hn (Nat.lt_of_le_of_lt hn (by decide)) hf;have hl':left=[]:=List.eq_nil_of_length_eq_zero hl;subst hl';have r1:=Gk n hn;exact ⟨found,f',Uh r1 e rfl,⟨by omega,h4,fun t ht=>(h2 t ht).resolve_left (by simp)⟩,hf'⟩
theorem Ij {ts:List Nat} {h:Nat} (hh:h < ts.length):AB (.lst (nI ts)) (.int (h:Nat))=some (.int (ts.getD h 0:Nat)):=FS hh
theorem SH {t:Nat}:∀ {ts:List Nat},t∈ts->∃ j,LB (.int (t:Nat)) (nI ts)=some j/\j < ts.length
 | [],h=>by cases h
 | x::xs,h=>by
  simp only [nI,List.map_cons,LB,R.eqV]
  by_cases e:x=t
  ·subst e;exact ⟨0,by simp,by simp⟩
  ·obtain ⟨j,q,hj⟩:=SH (ts:=xs) ((List.mem_cons.mp h).resolve_left fun z=>e z.symm);have:((x:Int) == (t:Int))=false:=beq_eq_false_iff_ne.mpr (by omega);simp only [nI] at q;exact ⟨j+1,by simp only [this,Bool.false_eq_true,if_false,q,Option.map_some],by simp;omega⟩
theorem Ym {n:Nat} (g:Dv->Option Dv) (hn:n<=1000) (h:∀ k < n,∃ r:Nat,g (.int (k:Nat))=some (.int (r:Nat))/\r < n):∃ ts:List Nat,BO g ((List.range n).map fun k=>.int (k:Nat))=some (nI ts)/\ts.length=n/\∀ t∈ts,t < n:=by
 obtain ⟨xs,e,hl,hx⟩:=DU g (fun d=>∃ r:Nat,d=.int r/\r < n) ((List.range n).map fun k=>.int (k:Nat)) fun x hx=>by
  obtain ⟨k,hk,rfl⟩:=List.mem_map.mp hx;obtain ⟨r,e,hr⟩:=h k (by simpa using hk);exact ⟨_,e,r,rfl,hr⟩
 obtain ⟨ts,rfl,ht⟩:=Lo hx;rw [Bo] at hl;exact ⟨ts,e,by simpa using hl,ht⟩
theorem Rv {n:Nat} {ts:List Nat} (hl:ts.length=n) (h:∀ t∈ts,t < n):Row n (tI ts):=⟨nI ts,rfl,by rw [Bo];exact hl,Zn h⟩
theorem Up {n:Nat} {ts sp:List Nat} {a t:Dv} {r:Int} (hn:n<=1000) (p:fj n ts) (hs:sp.length=n) (hs2:∀ t∈sp,t < n) (hr:r=1\/r=2) (ht:Tab n r t) (acc:List Dv) (hacc:acc.length<=1000) :
    ∃ u,Bi (tI ts) (.int (n:Nat)) (nI sp) (.tup [.tup [a,.int r],t]) (.lst acc)=some (.lst (acc++[u]))/\Jy n (.tup [a,.int r]) u:=by
  have i1:AB (.tup [a,.int r]) (.int 1)=some (.int r):=rfl;have rg:=HX n (by omega);have spa:∀ k < n,sp.getD k 0 < n:=fun k hk=>hs2 _ (getD_mem (by omega))
  rcases hr with rfl | rfl
  · obtain ⟨xs,e,hl,hx⟩:=Ym (DQ (tI ts) (nI sp) t) hn fun k hk=>by
      obtain ⟨e1,b1⟩:=Aw ht.one (spa k hk);refine ⟨_,?_,p.2.1 _ (getD_mem (show Dx t (sp.getD k 0) < ts.length by rw [p.1];exact b1))⟩;simp only [DQ,Ij (show k < sp.length by omega),e1,FS (show Dx t (sp.getD k 0) < ts.length by rw [p.1];exact b1),Option.bind_some]
    refine ⟨tI xs,?_,a,1,rfl,.inl rfl,.inl ⟨rfl,Rv hl hx⟩⟩;unfold Bi DN;simp only [HQ,Option.bind_some,i1,An,decide_true,if_true,rg,JO];rw [Ah (by simp;omega)];simp only [e,AK,Option.bind_some,HG (show acc.length<=1000000 by omega)];rfl
  · have inner:∀ a' < n,∃ u,CQ (tI ts) (.int (n:Nat)) (nI sp) t (.int (a':Nat))=some u/\Row n u:=fun a' ha=>by
      obtain ⟨e1,r1⟩:=Bt ht.two (spa a' ha);obtain ⟨xs,e,hl,hx⟩:=Ym (DP (tI ts) (nI sp) t (.int (a':Nat))) hn fun k hk=>by
        obtain ⟨e2,b2⟩:=Aw r1 (spa k hk);refine ⟨_,?_,p.2.1 _ (getD_mem (show Dx (sub t (sp.getD a' 0)) (sp.getD k 0) < ts.length by rw [p.1];exact b2))⟩;simp only [DP,Ij (show a' < sp.length by omega),Ij (show k < sp.length by omega),e1,e2,FS (show Dx (sub t (sp.getD a' 0)) (sp.getD k 0) < ts.length by rw [p.1];exact b2),Option.bind_some]
      refine ⟨tI xs,?_,Rv hl hx⟩;unfold CQ;simp only [rg,Option.bind_some];rw [Ah (by simp;omega)];simp only [e,AK,Option.bind_some];rfl
    obtain ⟨us,e,hl,hu⟩:=DU (CQ (tI ts) (.int (n:Nat)) (nI sp) t) (Row n) ((List.range n).map fun k=>.int (k:Nat)) fun x hx=>by
      obtain ⟨k,hk,rfl⟩:=List.mem_map.mp hx;exact inner k (by simpa using hk)
    refine ⟨.tup us,?_,a,2,rfl,.inr rfl,.inr ⟨rfl,us,rfl,by simpa using hl,hu⟩⟩;unfold Bi DN;simp only [HQ,Option.bind_some,i1,An,show decide ((2:Int)=1)=false by decide,Bool.false_eq_true,if_false,rg,JO];rw [Ah (by simp;omega),e];simp only [Option.bind_some,AK,HG (show acc.length<=1000000 by omega)]
theorem KY {n:Nat} {ts sp:List Nat} (hn:n<=1000) (p:fj n ts) (hs:sp.length=n) (hs2:∀ t∈sp,t < n):∀ {ds T:List Dv} (acc:List Dv),Paired (Jy n) ds T->acc.length+T.length<=1000->∃ T',BI (Bi (tI ts) (.int (n:Nat)) (nI sp)) (zipD2 ds T) (.lst acc)=some (.lst (acc++T'))/\Paired (Jy n) ds T'
 | _,_,acc,.nil,_=>⟨[],by simp [zipD2,BI],.nil⟩
 | _,_,acc,.cons (l₁:=ds) (l₂:=T) q r,hl=>by
  rw [List.length_cons] at hl;obtain ⟨a,rr,rfl,hr,ht⟩:=q;obtain ⟨u,e1,hu⟩:=Up (a:=a) hn p hs hs2 hr ht acc (by omega);obtain ⟨T',e2,hT⟩:=KY hn p hs hs2 (acc++[u]) r (by rw [List.length_append];simp;omega);exact ⟨u::T',by simp only [zipD2,BI,e1,Option.bind_some,e2,List.append_assoc,List.singleton_append],.cons hu hT⟩
section
variable {n nf:Nat} {ds:List Dv} {w fx:Dv} {cs:List Nat} {T:List Dv}
theorem JB {ts:List Nat} (hn:n<=1000) (hnf:nf<=1000) (hd:ds.length<=1000) (W:Wl n nf ds w cs T) (p:fj n ts):∃ w' cs' T',Cr (.tup [fx,.tup ds]) w (tI ts)=some w'/\Wl n nf ds w' cs' T':=by
 have j1:AB (.tup [fx,.tup ds]) (.int 1)=some (.tup ds):=rfl;have z2:IB [.tup ds,.tup T]=some (zipD2 ds T):=rfl;have i1:items (tI cs)=some (nI cs):=rfl;have rg:=HX n (by omega);obtain ⟨sp,e1,hs,hs2⟩:=Ym (DR (tI ts)) hn fun k hk=>by
  obtain ⟨j,q,hj⟩:=SH (p.2.2 k hk);refine ⟨j,?_,by rw [<- p.1];exact hj⟩;have:Dr (tI ts) (.int (k:Nat))=some (.int (j:Nat)):=by
   simp only [Dr,tI,Dv.cmp,EM,EL,Bool.and_self,Nat.zero_le,decide_true,if_true,q,Option.map_some]
  unfold DR FT;simp only [tI,df,gS] at this ⊢;rw [this];rfl
 obtain ⟨T',e2,hT⟩:=KY hn p hs hs2 [] W.2.2.2 (by have:=Gd W.2.2.2;simp;omega);have m:=ED (CP (tI ts)) (fun c:Nat=>Dv.int (c:Nat)) (fun c:Nat=>Dv.int (ts.getD c 0:Nat)) cs fun c hc=>by
  simp only [CP,FS (show c < ts.length by rw [p.1];exact W.2.2.1 c hc),Option.bind_some]
 have m2:BO (CP (tI ts)) (nI cs)=some (nI (cs.map fun c=>ts.getD c 0)):=by
  unfold nI;rw [m,List.map_map];rfl
 refine ⟨.tup [.int (n:Nat),tI (cs.map fun c=>ts.getD c 0),.tup T'],cs.map fun c=>ts.getD c 0,T',?_,rfl,by rw [List.length_map];exact W.2.1,fun c hc=>?_,hT⟩
 ·unfold Cr;simp only [W.w0,rg,Option.bind_some];rw [Ah (by simp;omega),e1];simp only [W.w1,W.w2,j1,z2,Option.bind_some];rw [e2];simp only [Option.bind_some,i1];rw [Ah (by rw [Bo,W.2.1];omega),m2];rfl
 ·obtain ⟨x,hx,rfl⟩:=List.mem_map.mp hc;exact p.2.1 _ (getD_mem (by rw [p.1];exact W.2.2.1 x hx))
end
theorem NN {ys:List Dv} {i:Nat} {z:Dv} (h:i < ys.length):BD (.lst ys) (.int (i:Nat)) z=some (.lst (ys.set i z)):=by
 simp only [BD,MS];rw [if_pos (by omega),if_pos (by omega)];simp
theorem NX {r m:Nat} (hm:0 < m):Ck (.int (r:Nat)) (.int (m:Nat))=some (.int ((r % m:Nat))):=by
 rw [HI _ _ (by omega)];congr 1
theorem WE {x2 it c t9 t18 t19:Dv} (h9:AB c it=some t9) (h10:Le t9 (.ty "tuple")=some (.bl false)) (h18:Ck t9 x2=some t18) (h19:BD c it t18=some t19):BF x2 it c=some t19:=by
 unfold BF GK;simp only [h9,h10,QO,h18,h19,Option.bind_some,Bool.false_eq_true,if_false]
theorem WD {x2 it c t9 t15 t16:Dv} {t12 p14:List Dv} (h9:AB c it=some t9) (h10:Le t9 (.ty "tuple")=some (.bl true)) (h12:items t9=some t12) (hl:t12.length<=1000000) (h14:BO (ES x2) t12=some p14) (h15:AK (.lst p14)=some t15) (h16:BD c it t15=some t16):BF x2 it c=some t16:=by
 unfold BF GK;simp only [h9,h10,QO,h12,Ah hl,h14,h15,h16,Option.bind_some,if_true]
theorem aQ {x2 it t6 t7 c20 t21 t22 u:Dv} {t8 c:List Dv} (h6:HK it=some t6) (h7:Bx t6=some t7) (h8:BM [t7]=some t8) (h20:BI (BF x2) t8 t6=some c20) (h21:AK c20=some t21) (h22:Ao (.lst c) [t21]=some (u,t22)):CH x2 it (.lst c)=some t22:=by
 unfold CH;simp only [h6,h7,h8,h20,JO,h21,h22,Option.bind_some]
theorem LD {n m:Nat} (hm:0 < m) (hmn:m<=n) (hn:n<=1000) {xs:List Dv} (hl:xs.length=n) (Pk:Dv->Prop) (hx:∀ y∈xs,Pk y)
    (hP:∀ y,Pk y->∀ c it t16 z,AB c it=some y->(Pk z->BD c it z=some t16->True)->True)
    (step:∀ (ys:List Dv) (i:Nat),i < ys.length->(∀ y∈ys,Pk y)->∃ z,BF (.int (m:Nat)) (.int (i:Nat)) (.lst ys)=some (.lst (ys.set i z))/\Pk z) :
    ∃ ys,BI (BF (.int (m:Nat))) ((List.range n).map fun k=>.int (k:Nat)) (.lst xs)=some (.lst ys)/\ys.length=n/\∀ y∈ys,Pk y:=by
  obtain ⟨c,e,ys,rfl,h1,h2⟩:=Gw (P:=fun _ c=>∃ ys,c=.lst ys/\ys.length=n/\∀ y∈ys,Pk y) (BF (.int (m:Nat))) n (.lst xs) ⟨xs,rfl,hl,hx⟩ fun i hi c hc=>by
    obtain ⟨ys,rfl,h1,h2⟩:=hc;obtain ⟨z,e,hz⟩:=step ys i (by omega) h2;refine ⟨_,e,ys.set i z,rfl,by rw [List.length_set];exact h1,fun y hy=>?_⟩;rcases List.mem_or_eq_of_mem_set hy with hy | rfl
    · exact h2 y hy
    · exact hz
  exact ⟨ys,e,h1,h2⟩
theorem SN {n m:Nat} (hm:0 < m) (hmn:m<=n) (hn:n<=1000) {d t:Dv} (h:Jy n d t) (acc:List Dv) (hacc:acc.length<=1000):∃ u,CH (.int (m:Nat)) t (.lst acc)=some (.lst (acc++[u]))/\Jy n d u:=by
  obtain ⟨a,r,rfl,hr,ht⟩:=h;have fin:∀ xs ys:List Dv,t=.tup xs->xs.length=n->BI (BF (.int (m:Nat))) ((List.range n).map fun k=>.int (k:Nat)) (.lst xs)=some (.lst ys)->CH (.int (m:Nat)) t (.lst acc)=some (.lst (acc++[.tup ys])):=fun xs ys e hl h20=>by
    subst e;have h7:Bx (.lst xs)=some (.int (n:Nat)):=by show some (Dv.int (xs.length:Nat))=_;rw [hl]
    exact aQ (t6:=.lst xs) rfl h7 (HX n (by omega)) h20 rfl (HG (by omega))
  rcases hr with rfl | rfl
  · obtain ⟨xs,rfl,hl,hx⟩:=ht.one;obtain ⟨ys,e,h1,h2⟩:=LD hm hmn hn hl (fun y=>∃ r:Nat,y=.int r/\r < n) hx (fun _ _ _ _ _ _ _ _=>trivial) fun ys i hi hy=>by
      obtain ⟨y,hy',ey⟩:=OC (xs:=ys) (i:=i) (by omega) (by omega);obtain ⟨r,rfl,hr⟩:=hy y hy';exact ⟨_,WE ey rfl (NX hm) (NN hi),_,rfl,Nat.lt_of_lt_of_le (Nat.mod_lt _ hm) hmn⟩
    exact ⟨.tup ys,fin xs ys rfl hl e,a,1,rfl,.inl rfl,.inl ⟨rfl,ys,rfl,h1,h2⟩⟩
  · obtain ⟨xs,rfl,hl,hx⟩:=ht.two;obtain ⟨ys,e,h1,h2⟩:=LD hm hmn hn hl (Row n) hx (fun _ _ _ _ _ _ _ _=>trivial) fun ys i hi hy=>by
      obtain ⟨y,hy',ey⟩:=OC (xs:=ys) (i:=i) (by omega) (by omega);obtain ⟨zs,rfl,hzl,hz⟩:=hy y hy';obtain ⟨us,eu,hul,hu⟩:=DU (ES (.int (m:Nat))) (fun d=>∃ r:Nat,d=.int r/\r < n) zs fun z hz'=>by
        obtain ⟨r,rfl,hr⟩:=hz z hz';exact ⟨_,by unfold ES;rw [NX hm];rfl,_,rfl,Nat.lt_of_lt_of_le (Nat.mod_lt _ hm) hmn⟩
      exact ⟨_,WD ey rfl rfl (by omega) eu rfl (NN hi),us,rfl,by omega,hu⟩
    exact ⟨.tup ys,fin xs ys rfl hl e,a,2,rfl,.inr rfl,.inr ⟨rfl,ys,rfl,h1,h2⟩⟩
theorem IK {n m:Nat} (hm:0 < m) (hmn:m<=n) (hn:n<=1000):∀ {ds T:List Dv} (acc:List Dv),Paired (Jy n) ds T->acc.length+T.length<=1000->∃ T',BI (CH (.int (m:Nat))) T (.lst acc)=some (.lst (acc++T'))/\Paired (Jy n) ds T'
 | _,_,acc,.nil,_=>⟨[],by simp [BI],.nil⟩
 | _,_,acc,.cons (l₁:=ds) (l₂:=T) q r,hl=>by
  rw [List.length_cons] at hl;obtain ⟨u,e1,hu⟩:=SN hm hmn hn q acc (by omega);obtain ⟨T',e2,hT⟩:=IK hm hmn hn (acc++[u]) r (by rw [List.length_append];simp;omega);exact ⟨u::T',by simp only [BI,e1,Option.bind_some,e2,List.append_assoc,List.singleton_append],.cons hu hT⟩
theorem JI {r:Nat}:BA (.int 1) (.int (r:Nat))=some (.int ((1+r:Nat))):=by rw [Em];congr 1
theorem WC {x0 x1 t1 r f' t3 c23 t25 t26:Dv} {t5:List Dv} (h1:AB x1 (.int 0)=some t1) (h2:AS x0 t1=some (r,f')) (h3:BA (.int 1) r=some t3) (h4:AB x1 (.int 2)=some (.tup t5)) (h23:BI (CH t3) t5 (.lst [])=some c23) (h25:AB x1 (.int 1)=some t25) (h26:AK c23=some t26):EC x0 x1=some (.tup [t1,t25,t26],f'):=by
 unfold EC;have h5:items (.tup t5)=some t5:=rfl;simp only [h1,h2,h3,h4,h5,h23,h25,h26,Option.bind_some]
section
variable {n nf:Nat} {ds:List Dv} {w:Dv} {cs:List Nat} {T:List Dv}
theorem IL {f:Dv} (hf:Fd f) (h0:0 < n) (hn:n<=1000) (hd:ds.length<=1000) (W:Wl n nf ds w cs T):∃ w' T' f',EC f w=some (w',f')/\Wl n nf ds w' cs T'/\Fd f':=by
 obtain ⟨r,f',e,b,hf'⟩:=AM hf (n:=((n:Nat):Int)) (by omega) (by omega);obtain ⟨T',e2,hT⟩:=IK (m:=1+r) (by omega) (by omega) hn [] W.2.2.2 (by have:=Gd W.2.2.2;simp;omega);exact ⟨_,T',f',WC W.w0 e JI W.w2 e2 W.w1 rfl,⟨rfl,W.2.1,W.2.2.1,hT⟩,hf'⟩
end
def XB (n nf:Nat) (ds:List Dv) (w:Dv):Prop:=∃ cs T,Wl n nf ds w cs T
theorem KC {f:Dv} (hf:Fd f) {fs ds:List Dv} {n:Nat} (h0:0 < n) (h1:n<=1000) (hfs:fs.length<=100) (hds:ds.length<=100) (hd:∀ x∈ds,XC 5 x):∃ w f',Cz f (.tup [.tup fs,.tup ds]) (.int (n:Nat))=some (w,f')/\XB n fs.length ds w/\Fd f':=by
 obtain ⟨ts,tbs,f',e,hl,ht,p,hf'⟩:=Lg hf (fs:=fs) (ds:=ds) h0 h1 hfs hds fun x hx=>by
  obtain ⟨a,r,rfl,_,hr⟩:=hd x hx;exact ⟨a,r,rfl,hr⟩
 obtain ⟨cs,rfl,hc⟩:=Lo ht;rw [Bo] at hl;exact ⟨_,f',e,⟨cs,tbs,rfl,hl,hc,p⟩,hf'⟩
section
variable {nf:Nat} {ds fs:List Dv}
theorem iV {n:Nat} {f w:Dv} (hf:Fd f) (h0:0 < n) (hn:n<=1000) (hd:ds.length<=1000) (W:XB n nf ds w):∃ w' f',Cc w f=some (f',w')/\XB n nf ds w'/\Fd f':=by
 obtain ⟨cs,T,W⟩:=W;obtain ⟨r,f1,e,b,hf1⟩:=AM hf (n:=2) (by decide) (by decide);unfold Cc;simp only [e,Option.bind_some,An];split
 ·obtain ⟨w',T',f',e2,W',hf'⟩:=IL hf1 h0 hn hd W;exact ⟨w',f',by rw [e2];rfl,⟨cs,T',W'⟩,hf'⟩
 ·exact ⟨w,f1,rfl,⟨cs,T,W⟩,hf1⟩
theorem iU {n:Nat} {f w:Dv} {r:Int} (hf:Fd f) (h0:0 < n) (hn:n<=1000) (hd:ds.length<=1000) (W:XB n nf ds w):∃ w' f',Cb (.int r) w f=some (f',w')/\XB n nf ds w'/\Fd f':=by
 obtain ⟨cs,T,W⟩:=W;unfold Cb;simp only [Option.bind_some,An];split
 ·obtain ⟨w',T',f',e2,W',hf'⟩:=IL hf h0 hn hd W;exact ⟨w',f',by rw [e2];rfl,⟨cs,T',W'⟩,hf'⟩
 ·exact ⟨w,f,rfl,⟨cs,T,W⟩,hf⟩
theorem QL {f:Dv} (hf:Fd f) (hfs:fs.length<=100) (hds:ds.length<=100) (hd:∀ x∈ds,XC 5 x):∃ one oth f' n1 n2,BJ f (.tup [.tup fs,.tup ds])=some (.tup [one,oth],f')/\0 < n1/\n1<=4/\XB n1 fs.length ds one/\0 < n2/\n2<=4/\XB n2 fs.length ds oth/\Fd f':=by
 obtain ⟨r1,f1,e1,b1,hf1⟩:=AM hf (n:=4) (by decide) (by decide);obtain ⟨w,f3,e3,W3,hf3⟩:=KC hf1 (fs:=fs) (ds:=ds) (n:=1+r1) (by omega) (by omega) hfs hds hd;obtain ⟨one,f7,e7,W7,hf7⟩:=iV hf3 (by omega) (by omega) (by omega) W3;obtain ⟨r8,f8,e8,b8,hf8⟩:=AM hf7 (n:=5) (by decide) (by decide);unfold BJ;simp only [e1,Option.bind_some,JI,e3,e7,e8,An,Cv];split
 ·exact ⟨one,one,f8,1+r1,1+r1,rfl,by omega,by omega,W7,by omega,by omega,W7,hf8⟩
 ·split
  ·obtain ⟨cs,T,W⟩:=W7;obtain ⟨ts,f12,e12,p,hf12⟩:=HW hf8 (n:=1+r1) (by omega);obtain ⟨w',cs',T',e13,W'⟩:=JB (fx:=.tup fs) (ts:=ts) (by omega) (by omega) (by omega) W p;exact ⟨one,w',f12,1+r1,1+r1,by simp only [W.w0,Option.bind_some,e12,e13],by omega,by omega,⟨cs,T,W⟩,by omega,by omega,⟨cs',T',W'⟩,hf12⟩
  ·obtain ⟨r14,f14,e14,b14,hf14⟩:=AM hf8 (n:=4) (by decide) (by decide);obtain ⟨w2,f16,e16,W16,hf16⟩:=KC hf14 (fs:=fs) (ds:=ds) (n:=1+r14) (by omega) (by omega) hfs hds hd;obtain ⟨oth,f19,e19,W19,hf19⟩:=iU (r:=r8) hf16 (by omega) (by omega) (by omega) W16;exact ⟨one,oth,f19,1+r1,1+r14,by simp only [e14,JI,e16,e19,Option.bind_some],by omega,by omega,W7,by omega,by omega,W19,hf19⟩
end
noncomputable def iI (ns:List Int):List Dv:=ns.map Dv.int
noncomputable def up (ts:List Nat):List Int:=ts.map fun t:Nat=>(t:Int)
theorem Rm (ts:List Nat):nI ts=iI (up ts):=by simp [nI,iI,up]
def pm (n:Nat) (r:List Nat):Bool:=decide (Eb (up r)=up (List.range n))
theorem Qz (n:Nat):(up (List.range n)).Pairwise (·<=·):=by
 unfold up;rw [List.pairwise_map];exact List.pairwise_lt_range.imp fun h=>by omega
def XE (n:Nat) (r:List Nat):Prop:=r.length=n/\(∀ v < n,v∈r)/\r.Nodup
theorem RV {n:Nat} {r:List Nat} (h:pm n r=true):XE n r:=by
  have e:Eb (up r)=up (List.range n):=of_decide_eq_true h;have p:(up r).Perm (up (List.range n)):=by rw [<- e];exact (Gp _).symm
  refine ⟨by simpa [up] using p.length_eq,fun v hv=>?_,?_⟩
  · have:(v:Int)∈up r:=p.mem_iff.mpr (List.mem_map.mpr ⟨v,by simpa using hv,rfl⟩);obtain ⟨w,hw,q⟩:=List.mem_map.mp this;have:w=v:=by omega
    rw [<- this];exact hw
  · have nd:(up (List.range n)).Nodup:=by
      unfold up List.Nodup;rw [List.pairwise_map];exact List.nodup_range.imp fun h=>by omega
    have:=p.nodup_iff.mpr nd;unfold up List.Nodup at this;rw [List.pairwise_map] at this;exact this.imp fun h=>by omega
theorem bF {n:Nat} {r:List Nat} (hr:∀ t∈r,t < n) (h:XE n r):pm n r=true:=by
 have p:r.Perm (List.range n):=(List.perm_ext_iff_of_nodup h.2.2 List.nodup_range).mpr fun a=>⟨fun ha=>by simpa using hr a ha,fun ha=>h.2.1 a (by simpa using ha)⟩
 refine decide_eq_true (Kz (ns:=up r) (ms:=up (List.range n)) ((p.map _).symm) (Qz n)).symm
noncomputable def inv (n:Nat) (r:List Nat):List Nat:=(List.range n).map fun v=>r.idxOf v
theorem Dp (n:Nat) (r:List Nat):(inv n r).length=n:=by simp [inv]
theorem Dq {r:List Nat} {k:Nat} (h:k < r.length):r.getD k 0=r[k]:=by simp [List.getD,h]
theorem JQ {n:Nat} {r:List Nat} {v:Nat} (hv:v < n):(inv n r).getD v 0=r.idxOf v:=by
 rw [Dq (by rw [Dp];exact hv)];simp [inv]
section
variable {n:Nat} {r:List Nat} (B:XE n r)
include B
theorem Gs {v:Nat} (hv:v < n):r.idxOf v < n:=by rw [<- B.1];exact List.idxOf_lt_length_iff.mpr (B.2.1 v hv)
theorem Kb {v:Nat} (hv:v < n):r.getD (r.idxOf v) 0=v:=by
 have h:r.idxOf v < r.length:=by rw [B.1];exact Gs B hv
 rw [Dq h];exact List.getElem_idxOf h
theorem SG (hr:∀ t∈r,t < n) {k:Nat} (hk:k < n):r.idxOf (r.getD k 0)=k:=by
 have hk':k < r.length:=by rw [B.1];exact hk
 have hv:r.getD k 0 < n:=hr _ (getD_mem hk');have h:r.idxOf (r.getD k 0) < r.length:=by rw [B.1];exact Gs B hv
 have e:=Kb B hv;rw [Dq h] at e;have e2:=e.trans (Dq hk');exact (List.getElem_inj B.2.2).mp e2
theorem Vp (hr:∀ t∈r,t < n):XE n (inv n r)/\∀ t∈inv n r,t < n:=by
 refine ⟨⟨Dp n r,fun k hk=>?_,?_⟩,fun t ht=>?_⟩
 ·refine List.mem_map.mpr ⟨r.getD k 0,?_,SG B hr hk⟩;simpa using hr _ (getD_mem (by rw [B.1];exact hk))
 ·unfold inv List.Nodup;rw [List.pairwise_map];refine (List.Pairwise.and_mem.mp List.nodup_range).imp fun {a b} h e=>h.2.2 ?_
  have h1:=Kb B (v:=a) (by simpa using h.1);have h2:=Kb B (v:=b) (by simpa using h.2.1);rw [<- h1,<- h2,e]
 ·obtain ⟨v,hv,rfl⟩:=List.mem_map.mp ht;exact Gs B (by simpa using hv)
end
theorem KU {n:Nat}:∀ {k:Nat} {r:List Nat},r.length=k->(∀ t∈r,t < n)->r∈rows n k
 | 0,r,h,_=>by have:r=[]:=List.eq_nil_of_length_eq_zero h;subst this;simp [rows]
 | k+1,r,h,ht=>by
  have hne:r≠[]:=fun z=>by rw [z] at h;cases h
  have e:=List.dropLast_concat_getLast hne;have m:=KU (n:=n) (k:=k) (r:=r.dropLast) (by rw [List.length_dropLast,h];rfl) fun t hx=>ht t (List.dropLast_subset r hx)
  unfold rows ext;refine List.mem_flatMap.mpr ⟨_,m,List.mem_map.mpr ⟨r.getLast hne,?_,e⟩⟩;simpa using ht _ (List.getLast_mem hne)
noncomputable def EH (r b:List Nat):List Nat:=r.map fun t=>b.getD t 0
theorem Jh {r b:List Nat} {k:Nat} (h:k < r.length):(EH r b).getD k 0=b.getD (r.getD k 0) 0:=by
 rw [Dq (by simpa [EH] using h),Dq h];simp [EH]
theorem Ct {n:Nat} {T U:Dv} {r:List Nat} (hl:r.length=n) (hT:Row n T):BP T U r=true↔∀ k < n,r.getD (Dx T k) 0=Dx U (r.getD k 0):=by
 unfold BP;rw [List.all_eq_true];refine ⟨fun h k hk=>?_,fun h k hk=>?_⟩
 ·have:=h k (by simp;omega);rw [Gf (by rw [hl];exact (Aw hT hk).2)] at this;exact of_decide_eq_true this
 ·have hk:k < n:=by rw [<- hl];simpa using hk
  rw [Gf (by rw [hl];exact (Aw hT hk).2)];exact decide_eq_true (h k hk)
theorem Xv {n1 n2:Nat} {T U V:Dv} {r b:List Nat} (hl:r.length=n1) (hr:∀ t∈r,t < n2) (hb:b.length=n2) (hT:Row n1 T) (hU:Row n2 U) (h1:BP T U r=true) (h2:BP U V b=true):BP T V (EH r b)=true:=by
 rw [Ct hl hT] at h1;rw [Ct hb hU] at h2;rw [Ct (by simpa [EH] using hl) hT];intro k hk;rw [Jh (by rw [hl];exact (Aw hT hk).2),Jh (by rw [hl];exact hk),h1 k hk,h2 _ (hr _ (getD_mem (by rw [hl];exact hk)))]
theorem di {n:Nat} {T U:Dv} {r:List Nat} (B:XE n r) (hr:∀ t∈r,t < n) (hT:Row n T) (hU:Row n U) (h1:BP T U r=true):BP U T (inv n r)=true:=by
 rw [Ct B.1 hT] at h1;rw [Ct (Dp n r) hU];intro v hv;have hk:=Gs B hv;have:=h1 _ hk;rw [Kb B hv] at this;rw [JQ (Aw hU hv).2,JQ hv,<- this,SG B hr (Aw hT hk).2]
theorem eO {n1 n2:Nat} {T U V:Dv} {r b:List Nat} (hl:r.length=n1) (hr:∀ t∈r,t < n2) (hb:b.length=n2) (hT:Lf n1 T) (hU:Lf n2 U) (h1:Cs T U r=true) (h2:Cs U V b=true):Cs T V (EH r b)=true:=by
 unfold Cs at *;rw [List.all_eq_true] at *;intro k hk;have hk:k < n1:=by rw [<- hl];simpa [EH] using hk
 have hk':k < r.length:=by rw [hl];exact hk
 have hv:=hr _ (getD_mem hk');rw [Jh hk'];exact Xv hl hr hb (Bt hT hk).2 (Bt hU hv).2 (h1 k (by simpa using hk')) (h2 _ (List.mem_range.mpr (by rw [hb];exact hv)))
theorem gV {n:Nat} {T U:Dv} {r:List Nat} (B:XE n r) (hr:∀ t∈r,t < n) (hT:Lf n T) (hU:Lf n U) (h1:Cs T U r=true):Cs U T (inv n r)=true:=by
 unfold Cs at *;rw [List.all_eq_true] at *;intro v hv;have hv:v < n:=by rw [Dp] at hv;simpa using hv
 have hk:=Gs B hv;rw [JQ hv];have:=h1 _ (by simp [B.1];exact hk);rw [Kb B hv] at this;exact di B hr (Bt hT hk).2 (Bt hU hv).2 this
theorem XI {n:Nat} {a t:Dv} {r:Int} (h:Jy n (.tup [a,.int r]) t):(r=1\/r=2)/\Tab n r t:=by
 obtain ⟨a',r',e,hr,ht⟩:=h;simp only [Dv.tup.injEq,List.cons.injEq,Dv.int.injEq,and_true] at e;obtain ⟨_,rfl⟩:=e;exact ⟨hr,ht⟩
theorem Ht {n1 n2 n3:Nat} {r b:List Nat} (hl:r.length=n1) (hr:∀ t∈r,t < n2) (hb:b.length=n2):∀ {ds T U V:List Dv},Paired (Jy n1) ds T->Paired (Jy n2) ds U->Paired (Jy n3) ds V->(zipD3 ds T U).all (BL r)=true->(zipD3 ds U V).all (BL b)=true->(zipD3 ds T V).all (BL (EH r b))=true
 | _,_,_,_,.nil,.nil,.nil,_,_=>rfl
 | _,_,_,_,.cons q1 p1,.cons q2 p2,.cons q3 p3,h1,h2=>by
  simp only [zipD3,List.all_cons,Bool.and_eq_true] at h1 h2 ⊢;refine ⟨?_,Ht hl hr hb p1 p2 p3 h1.2 h2.2⟩;obtain ⟨a,rr,rfl,hrr,ht⟩:=q1;have hu:=(XI q2).2;have e1:=h1.1;have e2:=h2.1;rcases hrr with rfl | rfl
  ·exact Xv hl hr hb ht.one hu.one e1 e2
  ·exact eO hl hr hb ht.two hu.two e1 e2
theorem KL {n:Nat} {r:List Nat} (B:XE n r) (hr:∀ t∈r,t < n):∀ {ds T U:List Dv},Paired (Jy n) ds T->Paired (Jy n) ds U->(zipD3 ds T U).all (BL r)=true->(zipD3 ds U T).all (BL (inv n r))=true
 | _,_,_,.nil,.nil,_=>rfl
 | _,_,_,.cons q1 p1,.cons q2 p2,h1=>by
  simp only [zipD3,List.all_cons,Bool.and_eq_true] at h1 ⊢;refine ⟨?_,KL B hr p1 p2 h1.2⟩;obtain ⟨a,rr,rfl,hrr,ht⟩:=q1;have hu:=(XI q2).2;have e1:=h1.1;rcases hrr with rfl | rfl
  ·exact di B hr ht.one hu.one e1
  ·exact gV B hr ht.two hu.two e1
section
variable {n1 n2 n3 nf:Nat} {ds:List Dv} {one oth thr:Dv} {cs es gs:List Nat} {T U V:List Dv}
theorem Vn {r b:List Nat} (W1:Wl n1 nf ds one cs T) (W2:Wl n2 nf ds oth es U) (W3:Wl n3 nf ds thr gs V) (hl:r.length=n1) (hr:∀ t∈r,t < n2) (hb:b.length=n2) (h1:la cs es ds T U r=true) (h2:la es gs ds U V b=true):la cs gs ds T V (EH r b)=true:=by
 unfold la at *;rw [Bool.and_eq_true] at *;refine ⟨?_,Ht hl hr hb W1.2.2.2 W2.2.2.2 W3.2.2.2 h1.2 h2.2⟩;have l1:∀ c∈cs,c < r.length:=fun c hc=>by rw [hl];exact W1.2.2.1 c hc
 have l2:∀ c∈es,c < b.length:=fun c hc=>by rw [hb];exact W2.2.2.1 c hc
 rw [<- DE (by rw [W1.2.1,W2.2.1]) l1] at h1;rw [<- DE (by rw [W2.2.1,W3.2.1]) l2] at h2;rw [<- DE (by rw [W1.2.1,W3.2.1]) (by simpa [EH] using l1)];have e1:=of_decide_eq_true h1.1;have e2:=of_decide_eq_true h2.1;refine decide_eq_true ?_;rw [<- e2,<- e1,List.map_map];exact List.map_congr_left fun c hc=>Jh (l1 c hc)
theorem Zw {r:List Nat} (W1:Wl n1 nf ds one cs T) (W2:Wl n1 nf ds oth es U) (B:XE n1 r) (hr:∀ t∈r,t < n1) (h1:la cs es ds T U r=true):la es cs ds U T (inv n1 r)=true:=by
 unfold la at *;rw [Bool.and_eq_true] at *;refine ⟨?_,KL B hr W1.2.2.2 W2.2.2.2 h1.2⟩;have l1:∀ c∈cs,c < r.length:=fun c hc=>by rw [B.1];exact W1.2.2.1 c hc
 rw [<- DE (by rw [W1.2.1,W2.2.1]) l1] at h1;rw [<- DE (by rw [W1.2.1,W2.2.1]) (fun c hc=>by rw [Dp];exact W2.2.2.1 c hc)];have e1:=of_decide_eq_true h1.1;refine decide_eq_true ?_;rw [<- e1,List.map_map];refine (List.map_congr_left (g:=id) fun c hc=>?_).trans (List.map_id _);have hc':=W1.2.2.1 c hc;show (inv n1 r).getD (r.getD c 0) 0=c;rw [JQ (hr _ (getD_mem (l1 c hc))),SG B hr hc']
end
theorem KF:∀ ns:List Int,DI (iI ns)=some ns
 | []=>rfl
 | n::ns=>by have:=KF ns;unfold iI at this;simp only [iI,List.map_cons,DI,this,Option.map_some]
theorem KH:∀ ts:List Int,BB (iI ts)=true
 | []=>rfl
 | t::ts=>by have:=KH ts;simp only [iI] at this;simp only [iI,List.map_cons,BB,Dv.cmp,this,Bool.and_self]
theorem KG:∀ ts:List Int,By (iI ts)=0
 | []=>rfl
 | t::ts=>by have:=KG ts;simp only [iI] at this;simp only [iI,List.map_cons,By,Dv.dep,this];rfl
theorem Np:∀ a b:List Int,R.eqVs (iI a) (iI b)=decide (a=b)
 | [],[]=>rfl
 | [],b::bs=>rfl
 | a::as,[]=>rfl
 | a::as,b::bs=>by
  have:=Np as bs;simp only [iI] at this;simp only [iI,List.map_cons,R.eqVs,R.eqV,this,List.cons.injEq]
  by_cases e:a=b
  ·subst e;simp
  ·have:(a == b)=false:=beq_eq_false_iff_ne.mpr e;simp [e,this]
theorem Tf (a b:List Int):Lb (.lst (iI a)) (.lst (iI b))=some (decide (a=b)):=by
 simp only [Js,Dv.cmp,Dv.dep,KH,KG,Bool.and_self,Nat.reduceAdd,Nat.reduceLeDiff,decide_true,if_true,R.eqV,Np,Bool.false_eq_true,if_false]
theorem bJ (a:List Nat):Lb (tI a) (tI a)=some true:=by
 simp only [Js,tI,Dv.cmp,Dv.dep,EM,EL,Bool.and_self,Nat.reduceAdd,Nat.reduceLeDiff,decide_true,if_true,R.eqV,Ja,Bool.false_eq_true,if_false]
theorem Hx {r:List Nat} (h:r.length < 64):DG (tI r)=some (.lst (iI (Eb (up r)))):=by
 have hl:(up r).length < 64:=by simpa [up] using h
 simp only [DG,tI,Rm,KF,Option.bind_some,if_pos hl];rfl
def tl (o:Option (List Nat)):Dv:=match o with | some r=>tI r | none=>.non
theorem FM (g:Dv->Unit->Option (Lp Dv Unit Unit)) (q:List Nat->Bool):∀ L:List (List Nat),(∀ r∈L,g (tI r) ()=some (if q r=true then .rt (tI r) () else .go ()))->Bp g (L.map tI) ()=some (match L.find? q with | some r=>.rt (tI r) () | none=>.go ())
 | [],_=>rfl
 | r::L,h=>by
  have ih:=FM g q L fun y hy=>h y (List.mem_cons_of_mem _ hy)
  simp only [List.map_cons,Bp,h r List.mem_cons_self,Option.bind_some,List.find?_cons];cases e:q r with
  | true=>rfl
  | false=>simpa using ih
theorem Ni {o:Option (List Nat)}:(Rs.el (match o with | some r=>(.rt (tI r) ():Rs Dv Unit Unit) | none=>.go ()) (fun _=>some Dv.non) fun e _=>some e)=some (tl o):=by cases o<;>rfl
section
variable {n1 n2 nf:Nat} {ds:List Dv} {one oth fx:Dv} {cs es:List Nat} {T U:List Dv}
def LK (n1 n2:Nat) (cs es:List Nat) (ds T U:List Dv):Option (List Nat):=((rows n2 n1).filter (la cs es ds T U)).find? (pm n2)
theorem FL (W1:Wl n1 nf ds one cs T) (W2:Wl n2 nf ds oth es U) (h1:n1<=4) (h2:n2<=4):FU (.tup [fx,.tup ds]) one oth=some (tl (LK n1 n2 cs es ds T U)):=by
 have m:=FM (Iw oth) (pm n2) ((rows n2 n1).filter (la cs es ds T U)) fun r hr=>by
  obtain ⟨a,b⟩:=Bl (List.mem_filter.mp hr).1;unfold Iw;simp only [Hx (show r.length < 64 by omega),W2.w0,Gk n2 (by omega),Rm,Tf,Option.bind_some];show (if pm n2 r=true then _ else _)=_;split<;>rfl
 unfold FU;rw [MK W1 W2 h1 h2];simp only [Option.bind_some,items];rw [m];exact Ni
theorem Sj (hnf:nf<=1000) (W1:Wl n1 nf ds one cs T) (W2:Wl n2 nf ds oth es U) (h1:n1<=4) (h2:n2<=4):KO (.tup [fx,.tup ds]) one oth=some (tl (LK n1 n2 cs es ds T U)):=by
  have m:=FM (JA (.tup [fx,.tup ds]) one oth) (fun r=>decide (n1=n2) && (pm n1 r && la cs es ds T U r)) (rows n1 n1) fun r hr=>by
    obtain ⟨a,b⟩:=Bl hr;unfold JA;have t:Im (.tup [fx,.tup ds]) one oth (tI r)=some (decide (n1=n2) && (pm n1 r && la cs es ds T U r)):=by
      unfold Im;simp only [W1.w0,W2.w0,Option.bind_some,An,Eh]
      by_cases e:n1=n2
      · subst e;simp only [decide_true,if_true,Bool.true_and];unfold NJ;simp only [Hx (show r.length < 64 by omega),W1.w0,Gk n1 (by omega),Rm,Tf,Option.bind_some];show ((if pm n1 r=true then _ else _:Option Bool).bind fun t=>some t)=_;cases pm n1 r with
        | true =>
          rw [if_pos rfl,MQ hnf W1 W2 a (by omega) b];simp only [Option.bind_some,Rk,cond_true,QO,Bool.true_and]
        | false=>rfl
      · simp only [e,decide_false,Bool.false_eq_true,if_false,Bool.false_and]
    rw [t];simp only [Option.bind_some];split<;>rfl
  have key:(rows n1 n1).find? (fun r=>decide (n1=n2) && (pm n1 r && la cs es ds T U r))=LK n1 n2 cs es ds T U:=by
    unfold LK
    by_cases e:n1=n2
    · subst e;rw [List.find?_filter];congr 1;funext r;simp only [decide_true,Bool.true_and];cases pm n1 r<;>cases la cs es ds T U r<;>rfl
    · have z:((rows n2 n1).filter (la cs es ds T U)).find? (pm n2)=none:=List.find?_eq_none.mpr fun r hr hp=>by
        have:=(Bl (List.mem_filter.mp hr).1).1;exact e (this.symm.trans (RV hp).1)
      rw [z];exact List.find?_eq_none.mpr fun r hr hp=>by simp [e] at hp
  unfold KO;simp only [W1.w0,Option.bind_some];rw [OT h1 h1];simp only [Option.bind_some,items];rw [m,key];exact Ni
theorem Lw (hnf:nf<=1000) (W1:Wl n1 nf ds one cs T) (W2:Wl n2 nf ds oth es U) (h1:n1<=4) (h2:n2<=4):EV (.tup [fx,.tup ds]) one oth=some (.bl true):=by
 unfold EV;rw [Sj hnf W1 W2 h1 h2];simp only [Option.bind_some];rw [FL W1 W2 h1 h2];simp only [Option.bind_some];cases LK n1 n2 cs es ds T U with
 | none=>rfl
 | some r =>
  have e:=bJ r;have t:Et (tI r) (tI r)=some false:=rfl;have t2:Dc (tI r) (tI r)=some (.bl true):=by
   unfold Dc
   have i:Le (tI r) (.ty "tuple")=some (.bl true):=rfl
   rw [i];simp only [Option.bind_some,fC,if_true,e]
  show ((Et (tI r) (tI r)).bind _)=_;rw [t];show ((Dc (tI r) (tI r)).bind _)=_;rw [t2];rfl
theorem JL {r:List Nat} (h:LK n1 n2 cs es ds T U=some r):n1=n2/\XE n1 r/\(∀ t∈r,t < n1)/\la cs es ds T U r=true:=by
 have p:=List.find?_some h;have m:=List.mem_of_find?_eq_some h;obtain ⟨m1,m2⟩:=List.mem_filter.mp m;obtain ⟨a,b⟩:=Bl m1;have B:=RV p;have e:n1=n2:=a.symm.trans B.1;subst e;exact ⟨rfl,B,b,m2⟩
theorem NZ (W1:Wl n1 nf ds one cs T) (W2:Wl n2 nf ds oth es U) {r:List Nat} (h:LK n1 n2 cs es ds T U=some r):∃ b,LK n2 n1 es cs ds U T=some b:=by
 obtain ⟨rfl,B,hr,hl⟩:=JL h;obtain ⟨B',hr'⟩:=Vp B hr;have:(LK n1 n1 es cs ds U T).isSome=true:=List.find?_isSome.mpr ⟨inv n1 r,List.mem_filter.mpr ⟨KU (Dp n1 r) hr',Zw W1 W2 B hr hl⟩,bF hr' B'⟩;exact Option.isSome_iff_exists.mp this
end
theorem bI (b:Bool):Wu (.bl b) (.bl b)=some false:=by cases b<;>rfl
theorem Vm {n1 n2 nf:Nat} {ds:List Dv} {one oth fx:Dv} (hnf:nf<=1000) (W1:XB n1 nf ds one) (W2:XB n2 nf ds oth) (h1:n1<=4) (h2:n2<=4):Iz (.tup [fx,.tup ds]) (.tup [one,oth]) ()=some (.go ()):=by
 obtain ⟨cs,T,W1⟩:=W1;obtain ⟨es,U,W2⟩:=W2;unfold Iz;rw [HQ,Lw hnf W1 W2 h1 h2];rfl
theorem gP {ns:List Int} {k:Nat}:Iy (.scr ns) (.int (k:Nat)) ()=some (.go ()):=by
 obtain ⟨f,e0,hf⟩:=PF (ns:=ns) (k:=k);obtain ⟨fs,ds,f1,e1,lf,hfs,ld,hd,hf1⟩:=Lv hf;obtain ⟨one,oth,f2,n1,n2,e2,p1,q1,W1,p2,q2,W2,hf2⟩:=QL (fs:=fs) hf1 (by omega) (by omega) hd;unfold Iy;rw [e0,Option.bind_some,e1,Option.bind_some];show ((BJ f1 (.tup [.tup fs,.tup ds])).bind _)=_;rw [e2,Option.bind_some];rw [HQ];have go:Bp (Iz (.tup [.tup fs,.tup ds])) [.tup [one,oth],.tup [oth,one],.tup [one,one],.tup [one,oth]] ()=some (.go ()):=JT _ () _ fun x hx=>by
  simp only [List.mem_cons,List.not_mem_nil,or_false] at hx;rcases hx with rfl | rfl | rfl | rfl
  ·exact Vm (by omega) W1 W2 q1 q2
  ·exact Vm (by omega) W2 W1 q2 q1
  ·exact Vm (by omega) W1 W1 q1 q1
  ·exact Vm (by omega) W1 W2 q1 q2
 have it:∀ xs:List Dv,items (.lst xs)=some xs:=fun _=>rfl
 rw [it,Option.bind_some,go];simp only [Option.bind_some,Rs.el];obtain ⟨cs,T,W1⟩:=W1;obtain ⟨es,U,W2⟩:=W2;rw [FL W1 W2 q1 q2];simp only [Option.bind_some];have l2:=FL (fx:=.tup fs) W2 W1 q2 q1;cases h1:LK n1 n2 cs es ds T U with
 | none =>
  have h2:LK n2 n1 es cs ds U T=none:=by
   cases h2:LK n2 n1 es cs ds U T with
   | none=>rfl
   | some b=>obtain ⟨c,hc⟩:=NZ W2 W1 h2;rw [h1] at hc;cases hc
  rw [l2,h2];rfl
 | some r =>
  obtain ⟨b,h2⟩:=NZ W1 W2 h1;rw [h2] at l2;obtain ⟨rfl,B,hr,hl⟩:=JL h1;obtain ⟨_,B',hr',hl'⟩:=JL h2;have i1:HE (tI r) .non=some false:=rfl;have i2:HE (tI b) .non=some false:=rfl;have i3:LZ (tI r) .non=some true:=rfl;have i4:items (tI r)=some (nI r):=rfl;have m:BO (Iv (tI b)) (nI r)=some (nI (EH r b)):=by
   have:=ED (Iv (tI b)) (fun t:Nat=>Dv.int (t:Nat)) (fun t:Nat=>Dv.int (b.getD t 0:Nat)) r fun t ht=>by
    simp only [Iv,FS (show t < b.length by rw [B'.1];exact hr t ht),Option.bind_some]
   unfold nI;rw [this];simp [EH]
  have kp:=Kx (fx:=.tup fs) (ts:=EH r b) (th:=.lst (nI (EH r b))) (fun _ h=>Ij h) (by omega) W1 W1 (by simpa [EH] using B.1) (by omega) (fun t ht=>by
   obtain ⟨x,hx,rfl⟩:=List.mem_map.mp ht;exact hr' _ (getD_mem (by rw [B'.1];exact hr x hx)))
  rw [Vn W1 W2 W1 B.1 hr B'.1 hl hl'] at kp;simp only [tl,i1,i2,i3,i4,l2,Option.bind_some,bI,Bool.false_eq_true,if_false,if_true];rw [Ah (by rw [Bo,B.1];omega),m];simp only [Option.bind_some];rw [kp];rfl
theorem SA (ns:List Int) (h:ns.length<=63):one Uk [Dv.scr ns]=some (Dv.bl true):=by
 show Uk (Dv.scr ns)=_;have l:Bx (.scr ns)=some (.int (ns.length:Nat)):=rfl;have:∃ d:Int,(Ig (.int 4) (.int (ns.length:Nat))).bind (fun d1=>Ih (.int 3) d1)=some (.int d)/\1<=d/\d<=4:=by
  simp only [Ig,Ih,Option.bind_some];exact ⟨_,rfl,by split<;>(split<;>omega),by split<;>(split<;>omega)⟩
 obtain ⟨d,ed,d1,d2⟩:=this;obtain ⟨x,ex,ed⟩:=Option.bind_eq_some_iff.mp ed;have sm:(R.small 1 && R.small d)=true:=by unfold R.small;simp;omega
 have rg:OU [.int 1,.int d]=some ((List.range (d - 1).toNat).map fun k=>.int (1+(k:Nat))):=by simp only [OU,sm,cond_true]
 unfold Uk;rw [l,Option.bind_some,ex,Option.bind_some,ed,Option.bind_some,rg,Option.bind_some];rw [JT (Iy (.scr ns)) () _ fun y hy=>by
  obtain ⟨k,_,rfl⟩:=List.mem_map.mp hy;exact gP (k:=1+k)]
 rfl
theorem He:As "longer_by_one" (top 1):=Jp (by kernel_rfl) fun _ _ _ _ _ _ _ _=>by kernel_rfl
theorem Jl:As "table_leads" (top 4):=bC (by kernel_rfl) fun _ _ _ _ _ _ _ _ _ _=>by kernel_rfl
theorem Jm:As "leads_alike" (top 3):=bC (by kernel_rfl) fun _ _ _ _ _ _ _ _ _ _=>by kernel_rfl
theorem Wp:As "moves" (top 5):=Pg (by kernel_rfl) fun _ _ _ _ _ _ _ _ _=>by kernel_rfl
theorem bA:As "like" (top 6):=Pg (by kernel_rfl) fun _ _ _ _ _ _ _ _ _=>by kernel_rfl
theorem Wt:As "_law_feed" (top 8):=Jp (by kernel_rfl) fun _ _ _ _ _ _ _ _=>by kernel_rfl
theorem Wq:As "_law_take" (top 9):=Jp (by kernel_rfl) fun _ _ _ _ _ _ _ _=>by kernel_rfl
theorem Ta:As "_law_names" (top 10):=Jp (by kernel_rfl) fun _ _ _ _ _ _ _ _=>by kernel_rfl
theorem TY:As "_law_shape" (top 11):=gn (by kernel_rfl) fun _ _ _ _ _ _ _=>by kernel_rfl
theorem TX:As "_law_world" (top 12):=Pg (by kernel_rfl) fun _ _ _ _ _ _ _ _ _=>by kernel_rfl
theorem Tc:As "_law_keeps" (top 13):=bC (by kernel_rfl) fun _ _ _ _ _ _ _ _ _ _=>by kernel_rfl
theorem LV:As "_law_with_each" (top 15):=Jp (by kernel_rfl) fun _ _ _ _ _ _ _ _=>by kernel_rfl
theorem Wr:As "_law_rows" (top 14):=Jp (by kernel_rfl) fun _ _ _ _ _ _ _ _=>by kernel_rfl
theorem LW:As "_law_shuffled" (top 16):=Jp (by kernel_rfl) fun _ _ _ _ _ _ _ _=>by kernel_rfl
theorem Mo:As "_law_renamed" (top 17):=Pg (by kernel_rfl) fun _ _ _ _ _ _ _ _ _=>by kernel_rfl
theorem Ws:As "_law_flat" (top 18):=Jp (by kernel_rfl) fun _ _ _ _ _ _ _ _=>by kernel_rfl
theorem Jo:As "_law_two_worlds" (top 19):=Jp (by kernel_rfl) fun _ _ _ _ _ _ _ _=>by kernel_rfl
theorem bB:As "_law_due" (top 20):=Pg (by kernel_rfl) fun _ _ _ _ _ _ _ _ _=>by kernel_rfl
theorem TZ:As "_law_right" (top 21):=Pg (by kernel_rfl) fun _ _ _ _ _ _ _ _ _=>by kernel_rfl
theorem all_mk {l:W.OpenLaw} {w:World} {K:W.Frag} {h:Heap} {mg:Str->Option Value} {fa:Addr} (X:K.In h) (G:h.Ns mainGlobals mg) (hfa:mg "law" = some (.ref fa)) (hz:md.bl.all (MI K)=true)
    (hsLongerByOne:GF K "longer_by_one" (top 1))
    (hsTableLeads:GF K "table_leads" (top 4))
    (hsLeadsAlike:GF K "leads_alike" (top 3))
    (hsMoves:GF K "moves" (top 5))
    (hsLike:GF K "like" (top 6))
    (hsLFeed:GF K "_law_feed" (top 8))
    (hsLTake:GF K "_law_take" (top 9))
    (hsLNames:GF K "_law_names" (top 10))
    (hsLShape:GF K "_law_shape" (top 11))
    (hsLWorld:GF K "_law_world" (top 12))
    (hsLKeeps:GF K "_law_keeps" (top 13))
    (hsLWithEach:GF K "_law_with_each" (top 15))
    (hsLRows:GF K "_law_rows" (top 14))
    (hsLShuffled:GF K "_law_shuffled" (top 16))
    (hsLRenamed:GF K "_law_renamed" (top 17))
    (hsLFlat:GF K "_law_flat" (top 18))
    (hsLTwoWorlds:GF K "_law_two_worlds" (top 19))
    (hsLDue:GF K "_law_due" (top 20))
    (hsLRight:GF K "_law_right" (top 21))
    (hsLaw:GF K "law" (top 22))
    : ∃ fd:FuncData,(∀ (s:Shared) (v:Value),BindsTo s fd ⟨[v],[]⟩ [("_law_script", v)])/\∀ base:Heap,K.In base->base.Ns mainGlobals mg->FnOk l.prog w K mg base Pp 220 fa fd ["_law_script"] (NK K):=by
  have e:=hfa.symm.trans (W.mg_of X G hsLaw.1);cases e;have b:Bs md K mg:=ef X G rfl hz
  refine ⟨W.fnOf "law" "law" (Am (top 22)) (AY (top 22)) (AG (top 22)) .none .none .none (ZK K (PH K "law")) none (WU K (PH K "law")) .none,fun s v=>.of_eq rfl,fun base _ _=>?_⟩
  have f0:Fs l.prog w K mg base 0 ff:=Fs.nil;have f1:Fs l.prog w K mg base 1 fc:=f0.def b Hc Hb hsLongerByOne (W.mg_of X G hsLongerByOne.1) He;have f2:Fs l.prog w K mg base 202 fZ:=f1.defR (io:=[]) (F:=fun n=>Gv (AH n)) b (by kernel_rfl) (fun ds=>eB ds) Jd JX hsTableLeads (W.mg_of X G hsTableLeads.1) Jl 200;have f3:Fs l.prog w K mg base 203 fY:=f2.def b Je JY hsLeadsAlike (W.mg_of X G hsLeadsAlike.1) Jm;have f4:Fs l.prog w K mg base 204 fX:=f3.def b WM WG hsMoves (W.mg_of X G hsMoves.1) Wp;have f5:Fs l.prog w K mg base 205 fW:=f4.def b aW aS hsLike (W.mg_of X G hsLike.1) bA;have f6:Fs l.prog w K mg base 206 fV:=f5.def b WR WK hsLFeed (W.mg_of X G hsLFeed.1) Wt;have f7:Fs l.prog w K mg base 207 fU:=f6.def b WN WH hsLTake (W.mg_of X G hsLTake.1) Wq;have f8:Fs l.prog w K mg base 208 fT:=f7.def b So Sf hsLNames (W.mg_of X G hsLNames.1) Ta;have f9:Fs l.prog w K mg base 209 fS:=f8.def b Sm Sd hsLShape (W.mg_of X G hsLShape.1) TY;have f10:Fs l.prog w K mg base 210 WB:=f9.def b Sl Sb hsLWorld (W.mg_of X G hsLWorld.1) TX;have f11:Fs l.prog w K mg base 211 WA:=f10.def b Sq Sg hsLKeeps (W.mg_of X G hsLKeeps.1) Tc;have f12:Fs l.prog w K mg base 212 Vz:=f11.def b LM LG hsLWithEach (W.mg_of X G hsLWithEach.1) LV;have f13:Fs l.prog w K mg base 213 Vy:=f12.def b WO WI hsLRows (W.mg_of X G hsLRows.1) Wr;have f14:Fs l.prog w K mg base 214 Vx:=f13.def b LN LH hsLShuffled (W.mg_of X G hsLShuffled.1) LW;have f15:Fs l.prog w K mg base 215 Vw:=f14.def b Mj Me hsLRenamed (W.mg_of X G hsLRenamed.1) Mo;have f16:Fs l.prog w K mg base 216 Vv:=f15.def b WQ WJ hsLFlat (W.mg_of X G hsLFlat.1) Ws;have f17:Fs l.prog w K mg base 217 Vu:=f16.def b Jf JZ hsLTwoWorlds (W.mg_of X G hsLTwoWorlds.1) Jo;have f18:Fs l.prog w K mg base 218 Vt:=f17.def b aX aT hsLDue (W.mg_of X G hsLDue.1) bB;have f19:Fs l.prog w K mg base 219 aP:=f18.def b Sn Se hsLRight (W.mg_of X G hsLRight.1) TZ
  have hp:AA (top 22)=(["_law_script"]:List Str):=by kernel_rfl
  have r:=Zu (ps:=AA (top 22)) (nb:=true) (by rw [hp];rfl) (Mi b f19 eN eM (MV hsLaw)) SA;rw [hp] at r;exact r
theorem walk {l:W.OpenLaw} {q:Program} {loose:List Str} {XP:(Str->Option Value)->Heap->Prop} {YP:World->Heap->Prop} {d:DefRec} {K:Params->W.Frag} (hn:l.most=some 63) (hdf:d.params.defaults=[])
    (hY:∀ (w:World) (h:Heap),YP w h->(K w.params).In h)
    (F:∀ (w:World) (mg:Str->Option Value) (fa:Addr) (h:Heap),(K w.params).In h->h.Ns mainGlobals mg->mg d.name=some (.ref fa) ->
      ∃ fd:FuncData,(∀ (s:Shared) (u:Value),BindsTo s fd ⟨[u],[]⟩ [("_law_script", u)])/\∀ base:Heap,(K w.params).In base->base.Ns mainGlobals mg->FnOk l.prog w (K w.params) mg base Pp 220 fa fd ["_law_script"] (NK (K w.params))) :
    W.WalkO q loose XP YP l.row.toRowW d [] (fun f vs=>PySem.call f vs):=
  L2.walk_of (n:=63) (k:=220) (x := "_law_script") (CX:=fun _=>Pp) (sp:=fun w=>NK (K w.params)) hn (by decide) hdf ⟨rfl,by decide,by decide,rfl⟩ hY F (fun _ _ a ns hl hO hS=>⟨a,ns,rfl,hS,hl,hO,fun _=>rfl⟩) fun _ _ _ _ _ z=>z
abbrev fO (i:Nat) (x:Str) (pm:Value) (cd:Addr):Obj:=⟨.type "function", none,.func (W.fnOf x x (Am (top i)) (AY (top i)) (AG (top i)) .none .none .none pm none (.ref cd) .none),#[]⟩
noncomputable def KP (P:Params):W.Frag:=[
(3,⟨.type "dict", none,.dict #[ke P "__name__" 165 (.str "law_shapefree_k60_like_worlds" 232),ke P "__doc__" 166 .none,ke P "__package__" 167 .none,ke P "__loader__" 168 (.builtin "__main__.__loader__#opaque"),ke P "__spec__" 169 .none,ke P "__annotations__" 170 (.ref 6),ke P "__builtins__" 171 (.ref 4),ke P "__file__" 173 (.str "/claim/cut.py" 172),ke P "__cached__" 174 .none,ke P "longer_by_one" 194 (.ref 19),ke P "leads_alike" 209 (.ref 26),ke P "table_leads" 215 (.ref 31),ke P "moves" 221 (.ref 36),ke P "like" 231 (.ref 43),ke P "_law_feed" 243 (.ref 50),ke P "_law_take" 253 (.ref 57),ke P "_law_names" 259 (.ref 62),ke P "_law_shape" 265 (.ref 67),ke P "_law_world" 271 (.ref 72),ke P "_law_keeps" 277 (.ref 77),ke P "_law_rows" 283 (.ref 82),ke P "_law_with_each" 289 (.ref 87),ke P "_law_shuffled" 299 (.ref 94),ke P "_law_renamed" 305 (.ref 99),ke P "_law_flat" 311 (.ref 104),ke P "_law_two_worlds" 322 (.ref 111),ke P "_law_due" 332 (.ref 118),ke P "_law_right" 343 (.ref 125),ke P "law" 349 (.ref 130)] 29,#[]⟩),
(19,fO 1 "longer_by_one" (.str "shapefree.worlds" 187) 18),
(18,cO "longer_by_one" 189 2 2 3 15 16 .none .none .none 17 192),
(26,fO 3 "leads_alike" (.str "shapefree.moves" 195) 25),
(25,cO "leads_alike" 197 8 4 3 20 21 .none (.ref 22) (.ref 23) 24 207),
(31,fO 4 "table_leads" (.str "shapefree.moves" 195) 30),
(30,cO "table_leads" 210 16 4 3 27 28 .none .none .none 29 213),
(36,fO 5 "moves" (.str "shapefree.moves" 195) 35),
(35,cO "moves" 216 20 3 3 32 33 .none .none .none 34 219),
(43,fO 6 "like" (.str "shapefree.moves" 195) 42),
(42,cO "like" 222 25 3 3 37 38 .none (.ref 39) (.ref 40) 41 229),
(50,fO 8 "_law_feed" (.str "law_shapefree_k60_like_worlds" 232) 49),
(49,cO "_law_feed" 234 31 2 3 44 45 .none (.ref 46) (.ref 47) 48 241),
(57,fO 9 "_law_take" (.str "law_shapefree_k60_like_worlds" 232) 56),
(56,cO "_law_take" 244 41 2 3 51 52 .none (.ref 53) (.ref 54) 55 251),
(62,fO 10 "_law_names" (.str "law_shapefree_k60_like_worlds" 232) 61),
(61,cO "_law_names" 254 49 2 3 58 59 .none .none .none 60 257),
(67,fO 11 "_law_shape" (.str "law_shapefree_k60_like_worlds" 232) 66),
(66,cO "_law_shape" 260 64 1 3 63 64 .none .none .none 65 263),
(72,fO 12 "_law_world" (.str "law_shapefree_k60_like_worlds" 232) 71),
(71,cO "_law_world" 266 70 3 3 68 69 .none .none .none 70 269),
(77,fO 13 "_law_keeps" (.str "law_shapefree_k60_like_worlds" 232) 76),
(76,cO "_law_keeps" 272 79 4 3 73 74 .none .none .none 75 275),
(82,fO 14 "_law_rows" (.str "law_shapefree_k60_like_worlds" 232) 81),
(81,cO "_law_rows" 278 90 2 3 78 79 .none .none .none 80 281),
(87,fO 15 "_law_with_each" (.str "law_shapefree_k60_like_worlds" 232) 86),
(86,cO "_law_with_each" 284 95 2 3 83 84 .none .none .none 85 287),
(94,fO 16 "_law_shuffled" (.str "law_shapefree_k60_like_worlds" 232) 93),
(93,cO "_law_shuffled" 290 100 2 3 88 89 .none (.ref 90) (.ref 91) 92 297),
(99,fO 17 "_law_renamed" (.str "law_shapefree_k60_like_worlds" 232) 98),
(98,cO "_law_renamed" 300 106 3 3 95 96 .none .none .none 97 303),
(104,fO 18 "_law_flat" (.str "law_shapefree_k60_like_worlds" 232) 103),
(103,cO "_law_flat" 306 116 2 3 100 101 .none .none .none 102 309),
(111,fO 19 "_law_two_worlds" (.str "law_shapefree_k60_like_worlds" 232) 110),
(110,cO "_law_two_worlds" 312 128 2 3 105 106 .none (.ref 107) (.ref 108) 109 320),
(118,fO 20 "_law_due" (.str "law_shapefree_k60_like_worlds" 232) 117),
(117,cO "_law_due" 323 141 3 3 112 113 .none (.ref 114) (.ref 115) 116 330),
(125,fO 21 "_law_right" (.str "law_shapefree_k60_like_worlds" 232) 124),
(124,cO "_law_right" 333 146 3 3 119 120 .none (.ref 121) (.ref 122) 123 341),
(130,fO 22 "law" (.str "law_shapefree_k60_like_worlds" 232) 129),
(129,cO "law" 344 152 1 3 126 127 .none .none .none 128 347)]
def dLaw:DefRec:=⟨"law", Am (top 22),AY (top 22),AG (top 22),aV (top 22)⟩
theorem top_left:XN PySem.Challenge.rw_shapefree_k60_like_worlds 23 [3,19,18,26,25,31,30,36,35,43,42,50,49,57,56,62,61,67,66,72,71,77,76,82,81,87,86,94,93,99,98,104,103,111,110,118,117,125,124,130,129] KP 1326:=fun w=>by kernel_rfl
theorem top_said:PySem.Challenge.rw_shapefree_k60_like_worlds.wellSaid=true:=by decide +kernel
end My
set_option maxHeartbeats 1000000
set_option maxHeartbeats 1000000
set_option maxHeartbeats 1000000
set_option maxHeartbeats 1000000
set_option maxHeartbeats 1000000
set_option maxHeartbeats 1000000
set_option maxHeartbeats 1000000
set_option maxHeartbeats 1000000
set_option maxHeartbeats 1000000
set_option maxHeartbeats 1000000
open PySem PySem.W PyProof.Rows
set_option maxRecDepth 100000 in
set_option maxHeartbeats 0 in
theorem PySem.Challenge.cw_shapefree_k60_like_worlds_holds : PySem.Challenge.rw_shapefree_k60_like_worlds.Holds := by
  refine L2.mk_law (d:=My.dLaw) My.top_said My.top_left (fun P=>by kernel_rfl) (by kernel_rfl) (by kernel_rfl) (by kernel_rfl) (by kernel_rfl) (by kernel_rfl) (by decide +kernel) ⟨rfl,rfl,rfl,rfl,rfl,by decide +kernel⟩ (by w_witness2) ?call
  refine My.walk (l:=PySem.Challenge.rw_shapefree_k60_like_worlds) (d:=My.dLaw) (K:=My.KP) rfl (by kernel_rfl) (fun w h Y=>Y) fun w mg fa h KX G hmg=>My.all_mk KX G hmg (by kernel_rfl) ⟨by kernel_rfl,by kernel_rfl,by kernel_rfl,by kernel_rfl⟩ ⟨by kernel_rfl,by kernel_rfl,by kernel_rfl,by kernel_rfl⟩ ⟨by kernel_rfl,by kernel_rfl,by kernel_rfl,by kernel_rfl⟩ ⟨by kernel_rfl,by kernel_rfl,by kernel_rfl,by kernel_rfl⟩ ⟨by kernel_rfl,by kernel_rfl,by kernel_rfl,by kernel_rfl⟩ ⟨by kernel_rfl,by kernel_rfl,by kernel_rfl,by kernel_rfl⟩ ⟨by kernel_rfl,by kernel_rfl,by kernel_rfl,by kernel_rfl⟩ ⟨by kernel_rfl,by kernel_rfl,by kernel_rfl,by kernel_rfl⟩ ⟨by kernel_rfl,by kernel_rfl,by kernel_rfl,by kernel_rfl⟩ ⟨by kernel_rfl,by kernel_rfl,by kernel_rfl,by kernel_rfl⟩ ⟨by kernel_rfl,by kernel_rfl,by kernel_rfl,by kernel_rfl⟩ ⟨by kernel_rfl,by kernel_rfl,by kernel_rfl,by kernel_rfl⟩ ⟨by kernel_rfl,by kernel_rfl,by kernel_rfl,by kernel_rfl⟩ ⟨by kernel_rfl,by kernel_rfl,by kernel_rfl,by kernel_rfl⟩ ⟨by kernel_rfl,by kernel_rfl,by kernel_rfl,by kernel_rfl⟩ ⟨by kernel_rfl,by kernel_rfl,by kernel_rfl,by kernel_rfl⟩ ⟨by kernel_rfl,by kernel_rfl,by kernel_rfl,by kernel_rfl⟩ ⟨by kernel_rfl,by kernel_rfl,by kernel_rfl,by kernel_rfl⟩ ⟨by kernel_rfl,by kernel_rfl,by kernel_rfl,by kernel_rfl⟩ ⟨by kernel_rfl,by kernel_rfl,by kernel_rfl,by kernel_rfl⟩
