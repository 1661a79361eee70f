import PyProof.Rows.All
import Wide.All
import OpenK.AllK
import Wide.FinOn
import Lean
import PyProof.EqAt
import PyProof.EqKinds
import PyProof.TupleCall
import PySem.Challenge.RW_shapefree_k08_terms_and_shapes_written
set_option Elab.async false
set_option linter.all false
set_option maxRecDepth 100000
set_option maxHeartbeats 4000000
namespace L2
open PySem PySem.Spec PyProof.Rows
abbrev Key := Sum Int Str
def keyIs : Key → Value → Bool
  | .inl k, v => Value.isInt k v
  | .inr x, v => Value.isStrOf x v
def keyH (w : World) : Key → Int
  | .inl k => hashInt k
  | .inr x => hashStr w x
theorem keyIs_shape : ∀ {k : Key} {v : Value}, keyIs k v = true → (∃ i t, k = Sum.inl i ∧ v = Value.int i t) ∨ (∃ x t, k = Sum.inr x ∧ v = Value.str x t)
  | .inl i, v, h => by
    obtain ⟨t, e⟩ := Value.isInt_shape (k := i) (v := v) h
    exact .inl ⟨i, t, rfl, e⟩
  | .inr x, v, h => by
    obtain ⟨t, e⟩ := Value.isStrOf_shape (x := x) (v := v) h
    exact .inr ⟨x, t, rfl, e⟩
theorem key_ll (a b : Int) : decide ((Sum.inl a : Key) = Sum.inl b) = (a == b) := by
  by_cases e : a = b
  · subst e; simp
  · have h : ¬ (Sum.inl a : Key) = Sum.inl b := fun q => e (Sum.inl.inj q)
    rw [decide_eq_false h]
    exact (beq_eq_false_iff_ne.mpr e).symm
theorem key_rr (a b : Str) : decide ((Sum.inr a : Key) = Sum.inr b) = decide (a = b) := by
  by_cases e : a = b
  · subst e; simp
  · have h : ¬ (Sum.inr a : Key) = Sum.inr b := fun q => e (Sum.inr.inj q)
    rw [decide_eq_false h, decide_eq_false e]
theorem key_lr (a : Int) (b : Str) : decide ((Sum.inl a : Key) = Sum.inr b) = false := decide_eq_false (fun q => nomatch q)
theorem key_rl (a : Str) (b : Int) : decide ((Sum.inr a : Key) = Sum.inl b) = false := decide_eq_false (fun q => nomatch q)
def mixKind (prog : Program) (w : World) : PySem.KeyKind prog w Key where
  is := keyIs
  hash := keyH w
  inj := fun v a b ha hb => by
    rcases keyIs_shape ha with ⟨i, t, rfl, rfl⟩ | ⟨x, t, rfl, rfl⟩
    · rcases keyIs_shape hb with ⟨j, u, rfl, e⟩ | ⟨y, u, rfl, e⟩
      · injection e with e1 _; rw [e1]
      · exact nomatch e
    · rcases keyIs_shape hb with ⟨j, u, rfl, e⟩ | ⟨y, u, rfl, e⟩
      · exact nomatch e
      · injection e with e1 _; rw [e1]
  byValue := fun k v h => by
    rcases keyIs_shape h with ⟨i, t, rfl, rfl⟩ | ⟨x, t, rfl, rfl⟩ <;> rfl
  pyHash := fun hv h => by
    rcases keyIs_shape hv with ⟨i, t, rfl, rfl⟩ | ⟨x, t, rfl, rfl⟩
    · exact wpAny_pyHash_int h
    · exact wpAny_pyHash_str h
  eqBool := fun hu hv h => by
    rcases keyIs_shape hu with ⟨i, t, rfl, rfl⟩ | ⟨x, t, rfl, rfl⟩
    · rcases keyIs_shape hv with ⟨j, u, rfl, rfl⟩ | ⟨y, u, rfl, rfl⟩
      · rw [key_ll] at h; exact wpAny_eqBool_int h
      · rw [key_lr] at h; exact SeqAt.EqAt.int_str i t y u _ _ _ _ h
    · rcases keyIs_shape hv with ⟨j, u, rfl, rfl⟩ | ⟨y, u, rfl, rfl⟩
      · rw [key_rl] at h; exact SeqAt.EqAt.str_int x t j u _ _ _ _ h
      · rw [key_rr] at h; exact wpAny_eqBool_str h
  «strs» := fun k x t v h => by
    rcases keyIs_shape h with ⟨i, u, rfl, e⟩ | ⟨y, u, rfl, e⟩
    · exact nomatch e
    · injection e with e1 _
      subst e1
      cases v <;> rfl
end L2
namespace L2
open PySem PySem.Spec PyProof.Rows
inductive V where
  | non | bl (b : Bool) | int (i : Int) | str (x : Str) | byt (b : Array UInt8) | flt (b : UInt64) | ref (a : Addr) | ty (n : String)
  deriving DecidableEq
def RelV : V → Value → Prop
  | .non, u => u = Value.none
  | .bl b, u => u = Value.bool b
  | .int i, u => ∃ t, u = Value.int i t
  | .str x, u => ∃ t, u = Value.str x t
  | .byt b, u => ∃ t, u = Value.bytes b t
  | .flt b, u => ∃ t, u = Value.float b t
  | .ref a, u => u = Value.ref a
  | .ty n, u => u = Value.type n
abbrev Vals : List V → List Value → Prop := Paired RelV
theorem Vals.length {xs : List V} {us : List Value} (r : Vals xs us) : xs.length = us.length := Paired.length r
theorem Vals.get : ∀ {xs : List V} {us : List Value} {i : Nat} {x : V}, Vals xs us → xs[i]? = some x → ∃ u, us[i]? = some u ∧ RelV x u
  | _, _, _, _, .nil, e => by simp at e
  | _, _, 0, _, .cons r _, e => by simp at e; subst e; exact ⟨_, rfl, r⟩
  | _, _, i + 1, x, .cons _ t, e => by
    obtain ⟨u, h1, h2⟩ := Vals.get (i := i) (x := x) t (by simpa using e)
    exact ⟨u, by simpa using h1, h2⟩
theorem Vals.set {x : V} {u : Value} (r : RelV x u) : ∀ {xs : List V} {us : List Value} (i : Nat), Vals xs us → Vals (xs.set i x) (us.set i u)
  | _, _, _, .nil => .nil
  | _, _, 0, .cons _ t => .cons r t
  | _, _, i + 1, .cons q t => .cons q (Vals.set r i t)
theorem Vals.append : ∀ {xs ys : List V} {us ws : List Value}, Vals xs us → Vals ys ws → Vals (xs ++ ys) (us ++ ws)
  | _, _, _, _, .nil, s => s
  | _, _, _, _, .cons r t, s => .cons r (Vals.append t s)
theorem Vals.take : ∀ {xs : List V} {us : List Value} (n : Nat), Vals xs us → Vals (xs.take n) (us.take n)
  | _, _, 0, _ => .nil
  | _, _, _ + 1, .nil => .nil
  | _, _, n + 1, .cons r t => .cons r (Vals.take n t)
theorem Vals.drop : ∀ {xs : List V} {us : List Value} (n : Nat), Vals xs us → Vals (xs.drop n) (us.drop n)
  | _, _, 0, r => r
  | _, _, _ + 1, .nil => .nil
  | _, _, n + 1, .cons _ t => Vals.drop n t
def RelO : Option V → Option Value → Prop
  | some v, some u => RelV v u
  | none, none => True
  | _, _ => False
def KV {κ : Type} : List (κ × V) → List (κ × Value) → Prop := Paired fun (p : κ × V) (q : κ × Value) => p.1 = q.1 ∧ RelV p.2 q.2
def kV : Key → V
  | .inl i => .int i
  | .inr x => .str x
inductive HO where
  | lst (xs : List V)
  | tup (xs : List V)
  | dK (kvs : List (Key × V)) | dT (kvs : List (List Key × V))
  | set (S : Int → Bool) (n : Nat)
  | ins (C dx : Addr) (fs : List (Str × V))
  | own (x : Addr)
  | xd (fs : List (Str × V))
  | met (f x : Addr)
  | rng (lo hi : Int)
  | frz (o : Obj) (u : HO)
  | tbl (ps : Array Value)
  | ext (φ : Heap → Prop)
abbrev Hp := Addr → Option HO
def upd (H : Hp) (a : Addr) (o : HO) : Hp := fun b => if b = a then some o else H b
theorem upd_same {H : Hp} {a : Addr} {o : HO} : upd H a o a = some o := by unfold upd; rw [if_pos rfl]
theorem upd_ne {H : Hp} {a b : Addr} {o : HO} (h : b ≠ a) : upd H a o b = H b := by unfold upd; rw [if_neg h]
theorem ne_of {H : Hp} {a b : Addr} {o u : HO} (h : H a = some o) (h' : H b = some u) (d : o ≠ u) : a ≠ b := by
  intro e; subst e; rw [h] at h'; exact d (Option.some.inj h')
theorem ne_of_none {H : Hp} {a b : Addr} {o : HO} (h : H a = some o) (h' : H b = none) : a ≠ b := by
  intro e; subst e; rw [h] at h'; cases h'
def TupD (h : Heap) (a : Addr) (items : Array Value) : Prop := ∃ o, h.get? a = some o ∧ o.cls = .type "tuple" ∧ o.dict = none ∧ ∃ n, o.data = .seq items n
theorem TupD.tup {h : Heap} {a : Addr} {items : Array Value} (x : TupD h a items) : IsTup h a items := let ⟨o, e, c, _, d⟩ := x; ⟨o, e, c, d⟩
theorem TupD.new (h : Heap) (items : Array Value) : TupD (h.push { cls := .type "tuple", data := .seq items }) h.objs.size items := ⟨_, Heap.get?_push_size _ rfl, rfl, rfl, _, rfl⟩
section
variable (P : Program) (w : World)
def ObjOk (H : Hp) (h : Heap) (a : Addr) : HO → Prop
  | .lst xs => xs.length ≤ sizeLine ∧ ∃ (its : List Value) (n : Nat), Vals xs its ∧ h.get? a = some { cls := .type "list", data := .seq its.toArray n }
  | .tup xs => xs.length ≤ sizeLine ∧ ∃ its : List Value, Vals xs its ∧ TupD h a its.toArray
  | .dK kvs => kvs.length ≤ sizeLine ∧ (a == sysModules) = false ∧ ∃ vs, KV kvs vs ∧ h.DictOf (mixKind P w) a vs
  | .dT kvs => kvs.length ≤ sizeLine ∧ (a == sysModules) = false ∧ ∃ xs : List (List Key × Addr × Value),
      Paired (fun (p : List Key × V) (q : List Key × Addr × Value) => p.1 = q.1 ∧ H q.2.1 = some (.tup (p.1.map kV)) ∧ RelV p.2 q.2.2) kvs xs ∧
      ∃ o es ep, h.get? a = some o ∧ o.ExactDict ∧ o.data = .dict es ep ∧ es.toList = xs.map (entryOfKey (tupleKind (mixKind P w))) ∧ (xs.map (·.1)).Nodup
  | .set S n => h.SetOf (intKind P w) a S n
  | .ins C dx fs => H dx = some (.own a) ∧ fs.length ≤ 1000 ∧ dx ≠ a ∧ h.get? a = some (PySem.W.instObj C dx) ∧
      ∃ mA, h.Ns1 dx mA ∧ (∀ f, RelO (fs.lookup f) (mA f)) ∧ PySem.Within mA (fs.map (·.1))
  | .own _ => ∃ o, h.get? a = some o
  | .xd fs => ∃ mA, h.Ns1 a mA ∧ ∀ f, RelO (fs.lookup f) (mA f)
  | .rng lo hi => ∃ t u v, h.get? a = some { cls := .type "range", data := .fields #[.int lo t, .int hi u, .int 1 v] }
  | .frz o u => h.get? a = some o ∧ ObjOk H h a u
  | .tbl ps => h.get? a = some { cls := .none, data := .fields ps }
  | .met f x => h.get? a = some (PySem.W.methodObj (.ref f) (.ref x))
  | .ext φ => φ h ∧ (∃ o, h.get? a = some o) ∧ ∀ h1 h2 : Heap, φ h1 → (∀ o, h1.get? a = some o → h2.get? a = some o) → φ h2
def HOk (H : Hp) (h : Heap) : Prop := ∀ a o, H a = some o → ObjOk P w H h a o
end
section
variable {P : Program} {w : World} {H H' : Hp} {h h' : Heap} {a : Addr} {o : HO}
theorem ObjOk.lt (x : ObjOk P w H h a o) : a < h.objs.size := by
  cases o with
  | lst xs => obtain ⟨_, _, _, _, e⟩ := x; exact Heap.lt_size e
  | tup xs => obtain ⟨_, _, _, p⟩ := x; exact p.tup.lt
  | dK kvs => obtain ⟨_, _, _, _, o, _, _, e, _⟩ := x; exact Heap.lt_size e
  | dT kvs => obtain ⟨_, _, _, _, o, _, _, e, _⟩ := x; exact Heap.lt_size e
  | set S n => obtain ⟨o, _, _, _, e, _⟩ := x; exact Heap.lt_size e
  | ins C dx fs => obtain ⟨_, _, _, e, _⟩ := x; exact Heap.lt_size e
  | own y => obtain ⟨_, e⟩ := x; exact Heap.lt_size e
  | xd fs => obtain ⟨_, ⟨_, _, _, e, _⟩, _⟩ := x; exact Heap.lt_size e
  | rng lo hi => obtain ⟨_, _, _, e⟩ := x; exact Heap.lt_size e
  | frz ob u => obtain ⟨e, _⟩ := x; exact Heap.lt_size e
  | tbl ps => exact Heap.lt_size (show h.get? a = some _ from x)
  | met f y => exact Heap.lt_size (show h.get? a = some _ from x)
  | ext φ => obtain ⟨_, ⟨_, e⟩, _⟩ := x; exact Heap.lt_size e
theorem Paired.mapP {α β : Type} {F G : α → β → Prop} : ∀ {l₁ : List α} {l₂ : List β}, Paired F l₁ l₂ → (∀ a b, F a b → G a b) → Paired G l₁ l₂
  | _, _, .nil, _ => .nil
  | _, _, .cons r t, f => .cons (f _ _ r) (Paired.mapP t f)
theorem ObjOk.stay (x : ObjOk P w H h a o) (k : ∀ b u, (b = a ∨ H b = some (.own a)) → h.get? b = some u → h'.get? b = some u)
    (ho : ∀ b, H b = some (.own a) → H' b = some (.own a)) (ht : ∀ b xs, H b = some (.tup xs) → H' b = some (.tup xs)) : ObjOk P w H' h' a o := by
  induction o with
  | lst xs => obtain ⟨z, its, n, r, e⟩ := x; exact ⟨z, its, n, r, k _ _ (.inl rfl) e⟩
  | tup xs => obtain ⟨z, its, r, ob, e, c⟩ := x; exact ⟨z, its, r, ob, k _ _ (.inl rfl) e, c⟩
  | dK kvs => obtain ⟨z, y, vs, r, ob, es, ep, e, c⟩ := x; exact ⟨z, y, vs, r, ob, es, ep, k _ _ (.inl rfl) e, c⟩
  | dT kvs =>
    obtain ⟨z, y, xs, r, ob, es, ep, e, c⟩ := x
    exact ⟨z, y, xs, Paired.mapP r fun p q z => ⟨z.1, ht _ _ z.2.1, z.2.2⟩, ob, es, ep, k _ _ (.inl rfl) e, c⟩
  | set S n => obtain ⟨ob, es, ep, t, e, c⟩ := x; exact ⟨ob, es, ep, t, k _ _ (.inl rfl) e, c⟩
  | ins C dx fs =>
    obtain ⟨d, z, ne, e, mA, ⟨od, es, ep, e2, c⟩, r⟩ := x
    exact ⟨ho _ d, z, ne, k _ _ (.inl rfl) e, mA, ⟨od, es, ep, k _ _ (.inr d) e2, c⟩, r⟩
  | own y => obtain ⟨ob, e⟩ := x; exact ⟨ob, k _ _ (.inl rfl) e⟩
  | xd fs => obtain ⟨mA, ⟨od, es, ep, e, c⟩, r⟩ := x; exact ⟨mA, ⟨od, es, ep, k _ _ (.inl rfl) e, c⟩, r⟩
  | rng lo hi => obtain ⟨t, u, v, e⟩ := x; exact ⟨t, u, v, k _ _ (.inl rfl) e⟩
  | frz ob u ih => obtain ⟨e, q⟩ := x; exact ⟨k _ _ (.inl rfl) e, ih q⟩
  | tbl ps =>
    have e : h.get? a = some { cls := .none, data := .fields ps } := x
    show h'.get? a = some { cls := .none, data := .fields ps }
    exact k a _ (.inl rfl) e
  | met f y =>
    have e : h.get? a = some (PySem.W.methodObj (.ref f) (.ref y)) := x
    show h'.get? a = some (PySem.W.methodObj (.ref f) (.ref y))
    exact k a _ (.inl rfl) e
  | ext φ => obtain ⟨p, ⟨o, e⟩, st⟩ := x; exact ⟨st _ _ p fun o q => k _ _ (.inl rfl) q, ⟨o, k _ _ (.inl rfl) e⟩, st⟩
theorem HOk.lt (x : HOk P w H h) (e : H a = some o) : a < h.objs.size := (x a o e).lt
theorem HOk.fresh (x : HOk P w H h) (e : h.objs.size ≤ a) : H a = none := by
  cases q : H a with
  | none => rfl
  | some u => exact absurd (Nat.lt_of_lt_of_le (x.lt q) e) (Nat.lt_irrefl _)
theorem HOk.kept (x : HOk P w H h) (k : ∀ b u, h.get? b = some u → h'.get? b = some u) : HOk P w H h' := fun a o e =>
  (x a o e).stay (fun b u _ q => k b u q) (fun _ q => q) fun _ _ q => q
theorem HOk.laid (x : HOk P w H h) (k : ∀ b u, h.get? b = some u → h'.get? b = some u) (hp : h.objs.size ≤ a) (new : ObjOk P w (upd H a o) h' a o) : HOk P w (upd H a o) h' := fun b u e => by
  have hn := x.fresh hp
  by_cases hb : b = a
  · subst hb; rw [upd_same] at e; cases e; exact new
  · rw [upd_ne hb] at e
    exact (x b u e).stay (fun c v _ q => k c v q) (fun c q => by rw [upd_ne (ne_of_none q hn)]; exact q) fun c xs q => by rw [upd_ne (ne_of_none q hn)]; exact q
end
def Rd (H : Hp) (a : Addr) (u : HO) : Prop := H a = some u ∨ ∃ o, H a = some (.frz o u)
theorem Rd.of {H : Hp} {a : Addr} {u : HO} (h : H a = some u) : Rd H a u := .inl h
theorem Rd.ok {P : Program} {w : World} {H : Hp} {h : Heap} {a : Addr} {u : HO} (r : Rd H a u) (x : HOk P w H h) : ObjOk P w H h a u := by
  rcases r with r | ⟨o, r⟩
  · exact x a u r
  · obtain ⟨_, q⟩ := x a _ r
    exact q
def Mut : Option HO → Prop
  | some (.lst _) => True
  | some (.dK _) => True
  | some (.dT _) => True
  | some (.set _ _) => True
  | some (.ins _ _ _) => True
  | some (.ext _) => True
  | _ => False
section
variable {P : Program} {w : World} {H : Hp} {h h' : Heap} {x e : Addr} {o' : HO}
theorem HOk.write (ok : HOk P w H h) (mu : Mut (H x)) (he : e = x ∨ H e = some (.own x)) (k : ∀ b u, b ≠ e → h.get? b = some u → h'.get? b = some u) (heo : ∃ u, h'.get? e = some u)
    (new : ObjOk P w (upd H x o') h' x o') : HOk P w (upd H x o') h' := fun b u q => by
  have nown : ∀ c y, H c = some (.own y) → c ≠ x := fun c y r z => by subst z; rw [r] at mu; exact mu
  have ntup : ∀ c xs, H c = some (.tup xs) → c ≠ x := fun c xs r z => by subst z; rw [r] at mu; exact mu
  by_cases hb : b = x
  · subst hb; rw [upd_same] at q; cases q; exact new
  · rw [upd_ne hb] at q
    by_cases hbe : b = e
    · have q' : H b = some (.own x) := by
        rcases he with z | z
        · exact absurd (hbe.trans z) hb
        · rw [hbe]; exact z
      rw [q] at q'; cases q'
      obtain ⟨v, hv⟩ := heo
      exact ⟨v, by rw [hbe]; exact hv⟩
    · refine (ok b u q).stay (fun c v hc r => k c v ?_ r) (fun c r => by rw [upd_ne (nown c b r)]; exact r) fun c xs r => by rw [upd_ne (ntup c xs r)]; exact r
      rcases hc with rfl | hc
      · exact hbe
      · rintro rfl
        rcases he with z | z
        · exact nown c b hc z
        · rw [hc] at z; cases z; exact hb rfl
end
structure Un (fs ex : List Addr) (H H' : Hp) (h h' : Heap) : Prop where
  keep : ∀ b o, h.get? b = some o → H b = none → b ∉ fs → b ∉ ex → h'.get? b = some o
  slot : ∀ b o, h.get? b = some o → H b = none → b ∈ fs → b ∉ ex → ∃ sl, h'.get? b = some { o with slots := sl }
  free : ∀ b o, h.get? b = some o → H b = none → b ∉ ex → H' b = none
  there : ∀ b o, h.get? b = some o → b ∉ ex → ∃ o', h'.get? b = some o'
  tups : ∀ b xs, H b = some (.tup xs) → H' b = some (.tup xs)
  frzs : ∀ b o u, H b = some (.frz o u) → H' b = some (.frz o u)
  tbls : ∀ b ps, H b = some (.tbl ps) → ∃ more, H' b = some (.tbl (ps ++ more))
section
variable {fs fs' ex ex' : List Addr} {H H1 H2 : Hp} {h h1 h2 h' : Heap} {a x e : Addr} {o : HO}
theorem Un.any (u : Un fs ex H H1 h h1) {b : Addr} {ob : Obj} (q : h.get? b = some ob) (n : H b = none) (hx : b ∉ ex) : ∃ sl, h1.get? b = some { ob with slots := sl } := by
  by_cases hb : b ∈ fs
  · exact u.slot b ob q n hb hx
  · exact ⟨ob.slots, u.keep b ob q n hb hx⟩
theorem Un.trans (a : Un fs ex H H1 h h1) (b : Un fs ex H1 H2 h1 h2) : Un fs ex H H2 h h2 where
  keep := fun c ob q n hc hx => b.keep c ob (a.keep c ob q n hc hx) (a.free c ob q n hx) hc hx
  slot := fun c ob q n hc hx => by
    obtain ⟨sl, e1⟩ := a.slot c ob q n hc hx
    obtain ⟨sl', e2⟩ := b.slot c _ e1 (a.free c ob q n hx) hc hx
    exact ⟨sl', e2⟩
  free := fun c ob q n hx => by
    obtain ⟨o', e1⟩ := a.there c ob q hx
    exact b.free c o' e1 (a.free c ob q n hx) hx
  there := fun c ob q hx => by
    obtain ⟨o', e1⟩ := a.there c ob q hx
    exact b.there c o' e1 hx
  tups := fun c xs q => b.tups c xs (a.tups c xs q)
  frzs := fun c ob xs q => b.frzs c ob xs (a.frzs c ob xs q)
  tbls := fun c ps q => by
    obtain ⟨m1, e1⟩ := a.tbls c ps q
    obtain ⟨m2, e2⟩ := b.tbls c _ e1
    exact ⟨m1 ++ m2, by rw [e2, Array.append_assoc]⟩
theorem Un.kept (k : ∀ b u, h.get? b = some u → h'.get? b = some u) : Un fs ex H H h h' :=
  ⟨fun b ob q _ _ _ => k b ob q, fun b ob q _ _ _ => ⟨ob.slots, k b ob q⟩, fun _ _ _ n _ => n, fun b ob q _ => ⟨ob, k b ob q⟩, fun _ _ q => q, fun _ _ _ q => q, fun _ ps q => ⟨#[], by rw [q]; simp⟩⟩
theorem Un.refl : Un fs ex H H h h := Un.kept fun _ _ q => q
theorem Un.laid (k : ∀ b u, h.get? b = some u → h'.get? b = some u) (hp : h.objs.size ≤ a) (hn : H a = none) : Un fs ex H (upd H a o) h h' where
  keep := fun b u q _ _ _ => k b u q
  slot := fun b u q _ _ _ => ⟨u.slots, k b u q⟩
  free := fun b u q n _ => by rw [upd_ne (Nat.ne_of_lt (Nat.lt_of_lt_of_le (Heap.lt_size q) hp))]; exact n
  there := fun b u q _ => ⟨u, k b u q⟩
  tups := fun b xs q => by rw [upd_ne (ne_of_none q hn)]; exact q
  frzs := fun b u xs q => by rw [upd_ne (ne_of_none q hn)]; exact q
  tbls := fun b ps q => ⟨#[], by rw [upd_ne (ne_of_none q hn), q]; simp⟩
theorem Un.write (mu : Mut (H x)) (he : e = x ∨ H e = some (.own x)) (k : ∀ b u, b ≠ e → h.get? b = some u → h'.get? b = some u) (heo : ∃ u, h'.get? e = some u) : Un fs ex H (upd H x o) h h' := by
  have hx : ∀ b, H b = none → b ≠ x := fun b n z => by subst z; rw [n] at mu; exact mu
  have hb : ∀ b, H b = none → b ≠ e := fun b n z => by
    subst z
    rcases he with r | r
    · exact hx b n r
    · rw [n] at r; cases r
  have hm : ∀ b u, H b = some u → ¬ Mut (some u) → b ≠ x := fun b u q nm z => by subst z; rw [q] at mu; exact nm mu
  refine ⟨fun b u q n _ _ => k b u (hb b n) q, fun b u q n _ _ => ⟨u.slots, k b u (hb b n) q⟩, fun b u q n _ => by rw [upd_ne (hx b n)]; exact n, fun b u q _ => ?_,
    fun b xs q => by rw [upd_ne (hm b _ q fun z => z)]; exact q, fun b u xs q => by rw [upd_ne (hm b _ q fun z => z)]; exact q, fun b ps q => ⟨#[], by rw [upd_ne (hm b _ q fun z => z), q]; simp⟩⟩
  by_cases hbe : b = e
  · subst hbe; exact heo
  · exact ⟨u, k b u hbe q⟩
theorem Un.mono (u : Un fs ex H H1 h h1) (hs : ∀ b ∈ fs, b ∈ fs') (hx : ∀ b ∈ ex, b ∈ ex') : Un fs' ex' H H1 h h1 :=
  ⟨fun b ob q n hb he => u.keep b ob q n (fun z => hb (hs b z)) fun z => he (hx b z), fun _ _ q n _ he => u.any q n fun z => he (hx _ z), fun b ob q n he => u.free b ob q n fun z => he (hx b z), fun b ob q he => u.there b ob q fun z => he (hx b z), u.tups, u.frzs, u.tbls⟩
end
def trk (h : Heap) (H : Hp) : List Addr := (List.range h.objs.size).filter fun a => (H a).isSome
def hidT (h : Heap) (H : Hp) : Heap := PySem.W.hideAll h (trk h H)
theorem hidT_size (h : Heap) (H : Hp) : (hidT h H).objs.size = h.objs.size := PySem.W.hideAll_size _ _
theorem hidT_get {h : Heap} {H : Hp} {b : Addr} {o : Obj} (e : h.get? b = some o) (n : H b = none) : (hidT h H).get? b = some o :=
  PySem.W.hideAll_get _ e fun hm => by
    have q : (H b).isSome = true := (List.mem_filter.mp hm).2
    rw [n] at q; simp at q
theorem of_hidT {h : Heap} {H : Hp} {b : Addr} {o : Obj} (e : (hidT h H).get? b = some o) : h.get? b = some o ∧ H b = none := by
  have e' : h.get? b = some o := PySem.W.of_hideAll (trk h H) e
  refine ⟨e', ?_⟩
  cases q : H b with
  | none => rfl
  | some x =>
    have hm : b ∈ trk h H := List.mem_filter.mpr ⟨List.mem_range.mpr (Heap.lt_size e'), by simp [q]⟩
    have z : (hidT h H).get? b = none := PySem.W.hideAll_none (trk h H) hm
    rw [z] at e; cases e
def allNews (g h : Heap) (L : Addr) : List (Addr × Obj) := (List.range h.objs.size).filterMap fun a => if a = L ∨ (g.get? a).isSome = true then none else (h.get? a).map fun o => (a, o)
def rest (g h : Heap) (L d : Addr) : List (Addr × Obj) := (allNews g h L).filter fun p => decide (p.1 ≠ d)
end L2
namespace L2
open PySem PySem.Spec PyProof.Rows
structure Mod (K : PySem.W.Frag) (mg : Str → Option Value) (base : Heap) : Prop where
  kin : K.In base
  glob : base.Ns mainGlobals mg
  blt : ∃ mb, base.Ns builtinsNs mb ∧ ∀ x : Str, x ≠ "__name__" → mb x = bootBuiltins x
  nolimit : base.NoLimit
structure Cx where
  prog : Program
  w : World
  K : PySem.W.Frag
  mg : Str → Option Value
  base : Heap
  A : Around
  N : List Str
  s₀ : Shared
  H₀ : Hp
  env : Env
  outer : List Env
  stack : List Env
  ex : List Addr
  fn : Str → Bool
  calm : Bool
  pn : List (Addr × Obj)
  xe : Value → Shared → Prop
def frs (l : List Env) : List Addr := l.filterMap (·.frame)
abbrev Cx.fs (X : Cx) : List Addr := frs X.outer
def Vis (sc : Scope) (x : Str) : Prop := sc.names.lookup x = some .local ∨ sc.names.lookup x = some .cell ∨ sc.names.lookup x = some .free
def Loc (sc : Scope) (x : Str) : Prop := sc.names.lookup x = some .local ∨ sc.names.lookup x = some .cell
def Look (env : Env) (h : Heap) (m : Str → Option Value) (x : Str) (u : Value) : Prop :=
  (env.kindOf x = some .local ∧ m x = some u) ∨ ((env.kindOf x = some .cell ∨ env.kindOf x = some .free) ∧ ∃ c, env.cells.lookup x = some c ∧ h.IsCell c (some u))
structure Cx.Ok (X : Cx) : Prop where
  mod : Mod X.K X.mg X.base
  kind : X.env.scope.kind = .function
  glob : X.env.globals = mainGlobals
  blt : X.env.builtins = builtinsNs
  above : X.s₀.heap.objs.size ≤ X.env.locals
  inj : ∀ x y c, X.env.cells.lookup x = some c → X.env.cells.lookup y = some c → x = y
  has : ∀ x, (X.env.kindOf x = some .cell ∨ X.env.kindOf x = some .free) → ∃ c, X.env.cells.lookup x = some c
  cab : ∀ x c, X.fn x = true → X.env.cells.lookup x = some c → X.s₀.heap.objs.size ≤ c
  hd : X.calm = true → X.A.handled = none
  frames : X.A.frames = some X.stack
  stk : X.stack = X.outer ∨ (X.stack = X.env :: X.outer ∧ X.env.frame = some X.env.locals)
  exf : ∀ b ∈ X.ex, b ≠ X.env.locals ∧ ∀ x c, X.env.cells.lookup x = some c → c ≠ b
  bs : ∀ b o, X.base.get? b = some o → X.s₀.heap.get? b = some o ∧ X.H₀ b = none
  bsz : X.base.objs.size ≤ X.s₀.heap.objs.size
  noex : ∀ b o, X.base.get? b = some o → b ∉ X.ex
  exfs : ∀ b ∈ X.ex, b ∉ X.fs
  funs : X.s₀.heap.FunFrames X.base X.outer
  frf : ∀ b ∈ X.fs, X.H₀ b = none
structure Inv (X : Cx) (pins : List (Addr × Obj)) (σ : List (Option V)) (H : Hp) (s : Shared) : Prop where
  ok : X.Ok
  os : s.os = X.s₀.os
  bare : AllBare s.gens
  base : Un X.fs X.ex X.H₀ H X.s₀.heap s.heap
  loc : ∃ m, s.heap.Ns X.env.locals m ∧ ∀ (i : Nat) (x : Str) (v : V), X.N[i]? = some x → σ[i]? = some (some v) → Vis X.env.scope x → ∃ u, RelV v u ∧ Look X.env s.heap m x u
  cell : ∀ x c, X.env.cells.lookup x = some c → ∃ v, s.heap.IsCell c v
  free : H X.env.locals = none
  freeC : ∀ x c, X.env.cells.lookup x = some c → H c = none
  pin : ∀ p ∈ X.pn ++ pins, s.heap.get? p.1 = some p.2 ∧ H p.1 = none ∧ p.1 ≠ X.env.locals ∧ p.1 ∉ X.fs ∧ ∀ v, p.2.data ≠ .cell v
  hok : HOk X.prog X.w H s.heap
  len : σ.length = X.N.length
section
variable {X : Cx} {pins : List (Addr × Obj)} {σ : List (Option V)} {H H' : Hp} {s : Shared} {h' : Heap}
theorem Cx.Ok.nofr (ok : X.Ok) {b : Addr} {o : Obj} (e : X.base.get? b = some o) : b ∉ X.fs := fun hb => by
  have := (ok.funs.mem hb).1
  rw [e] at this; cases this
theorem Inv.bs (I : Inv X pins σ H s) : ∀ b o, X.base.get? b = some o → s.heap.get? b = some o ∧ H b = none := fun b o e =>
  ⟨I.base.keep b o (I.ok.bs b o e).1 (I.ok.bs b o e).2 (I.ok.nofr e) (I.ok.noex b o e), I.base.free b o (I.ok.bs b o e).1 (I.ok.bs b o e).2 (I.ok.noex b o e)⟩
theorem Inv.bk (I : Inv X pins σ H s) : ∀ b o, X.base.get? b = some o → s.heap.get? b = some o := fun b o e => (I.bs b o e).1
theorem Inv.mod (I : Inv X pins σ H s) : Mod X.K X.mg X.base := I.ok.mod
theorem Inv.kIn (I : Inv X pins σ H s) : X.K.In s.heap := I.ok.mod.kin.keeps I.bk
theorem Inv.nolimit (I : Inv X pins σ H s) : s.heap.NoLimit := I.ok.mod.nolimit.keeps I.bk
theorem Inv.fr (I : Inv X pins σ H s) : ∃ m, Fr X.base X.env.locals s.heap m :=
  let ⟨m, hn, _⟩ := I.loc
  ⟨m, hn, I.bk, Nat.le_trans I.ok.bsz I.ok.above⟩
theorem Inv.lt (I : Inv X pins σ H s) : X.env.locals < s.heap.objs.size := let ⟨_, hn, _⟩ := I.loc; hn.lt
theorem Inv.sz (I : Inv X pins σ H s) : X.s₀.heap.objs.size ≤ s.heap.objs.size := Nat.le_trans I.ok.above (Nat.le_of_lt I.lt)
theorem Inv.nofs (I : Inv X pins σ H s) {a : Addr} (h : s.heap.objs.size ≤ a) : a ∉ X.fs := fun hb => by
  obtain ⟨_, o, ho, _⟩ := I.ok.funs.mem hb
  exact absurd (Nat.lt_of_lt_of_le (Heap.lt_size ho) (Nat.le_trans I.sz h)) (Nat.lt_irrefl _)
theorem Inv.cne (I : Inv X pins σ H s) : ∀ x c, X.env.cells.lookup x = some c → c ≠ X.env.locals := fun x c e z => by
  obtain ⟨v, o, ho, hd⟩ := I.cell x c e
  obtain ⟨m, ⟨o', es, ep, ho', hd', _⟩, _⟩ := I.loc
  rw [z, ho'] at ho; cases ho; rw [hd'] at hd; cases hd
theorem Inv.funs (I : Inv X pins σ H s) : s.heap.FunFrames X.base X.outer := by
  have all : ∀ (l : List Env), (∀ b ∈ frs l, b ∈ X.fs) → X.s₀.heap.FunFrames X.base l → s.heap.FunFrames X.base l := by
    intro l
    induction l with
    | nil => intro _ _; trivial
    | cons env r ih =>
      intro hs hl
      obtain ⟨hk, ⟨L, o, hf, hn, ho, hd⟩, hr⟩ := hl
      have hL : L ∈ X.fs := hs L (by unfold frs; rw [List.filterMap_cons, hf]; exact List.mem_cons_self)
      obtain ⟨sl, e⟩ := I.base.slot L o ho (I.ok.frf L hL) hL fun z => I.ok.exfs L z hL
      exact ⟨hk, ⟨L, _, hf, hn, e, hd⟩, ih (fun b hb => hs b (by unfold frs; rw [List.filterMap_cons, hf]; exact List.mem_cons_of_mem _ hb)) hr⟩
  exact all X.outer (fun _ hb => hb) I.ok.funs
theorem Inv.stack (I : Inv X pins σ H s) : s.heap.FunFrames X.base X.stack := by
  rcases I.ok.stk with e | ⟨e, hf⟩
  · rw [e]; exact I.funs
  · rw [e]
    obtain ⟨m, hn, _⟩ := I.loc
    refine .cons (by rw [I.ok.kind]; decide) hf hn ?_ I.funs
    exact Heap.get?_none_of_le (Nat.le_trans I.ok.bsz I.ok.above)
theorem Inv.stkSub (I : Inv X pins σ H s) : ∀ b ∈ frs X.stack, b ∈ X.env.locals :: X.fs := fun b hb => by
  rcases I.ok.stk with e | ⟨e, hf⟩
  · rw [e] at hb; exact List.mem_cons_of_mem _ hb
  · rw [e] at hb
    unfold frs at hb
    rw [List.filterMap_cons, hf] at hb
    exact hb
theorem Inv.stkFree (I : Inv X pins σ H s) : ∀ b ∈ frs X.stack, H b = none := fun b hb => by
  rcases List.mem_cons.mp (I.stkSub b hb) with e | hb
  · rw [e]; exact I.free
  · obtain ⟨_, o, ho, _⟩ := I.ok.funs.mem hb
    exact I.base.free b o ho (I.ok.frf b hb) fun z => I.ok.exfs b z hb
theorem Inv.step {g' : Array GenState} {t' : Nat} {d' : Drawn} {ch : List Addr} (I : Inv X pins σ H s)
    (hch : ∀ b ∈ ch, (b ∈ X.ex ∨ X.s₀.heap.objs.size ≤ b) ∧ b ≠ X.env.locals ∧ (∀ x c, X.env.cells.lookup x = some c → c ≠ b) ∧ ∀ p ∈ X.pn ++ pins, p.1 ≠ b)
    (keep : ∀ b o, b ≠ X.env.locals → b ∉ X.fs → b ∉ ch → s.heap.get? b = some o → H b = none → h'.get? b = some o)
    (slot : ∀ b o, b ≠ X.env.locals → b ∈ X.fs → b ∉ ch → s.heap.get? b = some o → H b = none → ∃ sl, h'.get? b = some { o with slots := sl }) (free : ∀ b o, b ∉ ch → s.heap.get? b = some o → H b = none → H' b = none)
    (there : ∀ b o, b ∉ ch → s.heap.get? b = some o → ∃ o', h'.get? b = some o')
    (tups : ∀ b xs, H b = some (.tup xs) → H' b = some (.tup xs)) (frzs : ∀ b o u, H b = some (.frz o u) → H' b = some (.frz o u)) (tbls : ∀ b ps, H b = some (.tbl ps) → ∃ more, H' b = some (.tbl (ps ++ more)))
    (ns : ∀ m, s.heap.Ns X.env.locals m → h'.Ns X.env.locals m) (hok : HOk X.prog X.w H' h') (hg : AllBare g') :
    Inv X pins σ H' { s with heap := h', gens := g', drawn := d', toks := t' } := by
  have neL : ∀ b o, X.s₀.heap.get? b = some o → b ≠ X.env.locals := fun b o e => Nat.ne_of_lt (Nat.lt_of_lt_of_le (Heap.lt_size e) I.ok.above)
  have neC : ∀ b o, X.s₀.heap.get? b = some o → b ∉ X.ex → b ∉ ch := fun b o e hx hb => by
    rcases (hch b hb).1 with z | z
    · exact hx z
    · exact absurd (Nat.lt_of_lt_of_le (Heap.lt_size e) z) (Nat.lt_irrefl _)
  have cellK : ∀ x c, X.env.cells.lookup x = some c → ∀ v, s.heap.IsCell c v → h'.IsCell c v := fun x c e v ⟨o, ho, hd⟩ => by
    have nch : c ∉ ch := fun z => (hch c z).2.2.1 x c e rfl
    by_cases hc : c ∈ X.fs
    · obtain ⟨sl, q⟩ := slot c o (I.cne x c e) hc nch ho (I.freeC x c e)
      exact ⟨_, q, hd⟩
    · exact ⟨o, keep c o (I.cne x c e) hc nch ho (I.freeC x c e), hd⟩
  refine ⟨I.ok, I.os, hg, ⟨fun b o e n hb hx => ?_, fun b o e n hb hx => ?_, fun b o e n hx => ?_, fun b o e hx => ?_, fun b xs e => tups b xs (I.base.tups b xs e), fun b o xs e => frzs b o xs (I.base.frzs b o xs e), fun b ps e => ?_⟩, ?_, fun x c e => ?_, ?_, fun x c e => ?_, fun p hp => ?_, hok, I.len⟩
  · exact keep b o (neL b o e) hb (neC b o e hx) (I.base.keep b o e n hb hx) (I.base.free b o e n hx)
  · obtain ⟨sl, e1⟩ := I.base.slot b o e n hb hx
    obtain ⟨sl', e2⟩ := slot b _ (neL b o e) hb (neC b o e hx) e1 (I.base.free b o e n hx)
    exact ⟨sl', e2⟩
  · obtain ⟨o', e1⟩ := I.base.there b o e hx
    exact free b o' (neC b o e hx) e1 (I.base.free b o e n hx)
  · obtain ⟨o', e1⟩ := I.base.there b o e hx
    exact there b o' (neC b o e hx) e1
  · obtain ⟨m1, e1⟩ := I.base.tbls b ps e
    obtain ⟨m2, e2⟩ := tbls b _ e1
    exact ⟨m1 ++ m2, by rw [e2, Array.append_assoc]⟩
  · obtain ⟨m, hn, hl⟩ := I.loc
    refine ⟨m, ns m hn, fun i x v e1 e2 e3 => ?_⟩
    obtain ⟨u, r, l⟩ := hl i x v e1 e2 e3
    refine ⟨u, r, ?_⟩
    rcases l with l | ⟨k, c, e, z⟩
    · exact .inl l
    · exact .inr ⟨k, c, e, cellK x c e _ z⟩
  · obtain ⟨v, z⟩ := I.cell x c e
    exact ⟨v, cellK x c e v z⟩
  · obtain ⟨m, ⟨o, _, _, ho, _⟩, _⟩ := I.loc
    exact free _ o (fun z => (hch _ z).2.1 rfl) ho I.free
  · obtain ⟨v, o, ho, hd⟩ := I.cell x c e
    exact free c o (fun z => (hch c z).2.2.1 x c e rfl) ho (I.freeC x c e)
  · obtain ⟨e, n, ne, nf, d⟩ := I.pin p hp
    have nch : p.1 ∉ ch := fun z => (hch p.1 z).2.2.2 p hp rfl
    exact ⟨keep p.1 p.2 ne nf nch e n, free p.1 p.2 nch e n, ne, nf, d⟩
theorem Inv.un {t' : Nat} (I : Inv X pins σ H s) (u : Un X.fs [] H H' s.heap h') (hok : HOk X.prog X.w H' h') : Inv X pins σ H' { s with heap := h', toks := t' } := by
  obtain ⟨m, ⟨o, es, ep, ho, r⟩, _⟩ := id I.loc
  obtain ⟨sl, hL⟩ := u.any ho I.free (by simp)
  exact I.step (g' := s.gens) (d' := s.drawn) (ch := []) (fun _ z => nomatch z) (fun b o _ hb _ e n => u.keep b o e n hb (by simp)) (fun b o _ hb _ e n => u.slot b o e n hb (by simp)) (fun b o _ e n => u.free b o e n (by simp)) (fun b o _ e => u.there b o e (by simp)) u.tups u.frzs u.tbls (fun m' hm => by
    obtain ⟨o', es', ep', ho', r'⟩ := hm
    rw [ho] at ho'; cases ho'
    exact ⟨_, es', ep', hL, r'⟩) hok I.bare
theorem Inv.call {g' : Array GenState} {t' : Nat} {d' : Drawn} {ch : List Addr} (I : Inv X pins σ H s) (u : Un (frs X.stack) ch H H' s.heap h') (hok : HOk X.prog X.w H' h') (hg : AllBare g')
    (hch : ∀ b ∈ ch, (b ∈ X.ex ∨ X.s₀.heap.objs.size ≤ b) ∧ b ≠ X.env.locals ∧ (∀ x c, X.env.cells.lookup x = some c → c ≠ b) ∧ ∀ p ∈ X.pn ++ pins, p.1 ≠ b) :
    Inv X pins σ H' { s with heap := h', gens := g', drawn := d', toks := t' } := by
  obtain ⟨m, ⟨o, es, ep, ho, r⟩, _⟩ := id I.loc
  obtain ⟨sl, hL⟩ := u.any ho I.free fun z => (hch _ z).2.1 rfl
  exact I.step (ch := ch) hch (fun b o hL hb hc e n => u.keep b o e n (fun z => (List.mem_cons.mp (I.stkSub b z)).elim hL hb) hc) (fun b o _ _ hc e n => u.any e n hc) (fun b o hc e n => u.free b o e n hc) (fun b o hc e => u.there b o e hc) u.tups u.frzs u.tbls (fun m' hm => by
    obtain ⟨o', es', ep', ho', r'⟩ := hm
    rw [ho] at ho'; cases ho'
    exact ⟨_, es', ep', hL, r'⟩) hok hg
theorem Inv.turned {t' : Nat} {it : Addr} (I : Inv X pins σ H s) (k : ∀ b o, b ≠ it → s.heap.get? b = some o → h'.get? b = some o) (hn : H it = none) (hL : it ≠ X.env.locals)
    (h1 : it ∈ X.ex ∨ X.s₀.heap.objs.size ≤ it) (h2 : ∀ x c, X.env.cells.lookup x = some c → c ≠ it) (h3 : ∀ p ∈ X.pn ++ pins, p.1 ≠ it) : Inv X pins σ H { s with heap := h', toks := t' } := by
  have nit : ∀ b u, H b = some u → b ≠ it := fun b u e z => by rw [z, hn] at e; cases e
  refine I.step (g' := s.gens) (d' := s.drawn) (ch := [it]) (fun b hb => ?_) (fun b o _ _ hc e _ => k b o (fun z => hc (by simp [z])) e) (fun b o _ _ hc e _ => ⟨o.slots, k b o (fun z => hc (by simp [z])) e⟩) (fun _ _ _ _ n => n)
    (fun b o hc e => ⟨o, k b o (fun z => hc (by simp [z])) e⟩) (fun _ _ e => e) (fun _ _ _ e => e) (fun b ps e => ⟨#[], by rw [e]; simp⟩) (fun m hm => ?_) (fun b u e => ?_) I.bare
  · have e : b = it := by simpa using hb
    subst e
    exact ⟨h1, hL, h2, h3⟩
  · obtain ⟨o, es, ep, ho, r⟩ := hm
    exact ⟨o, es, ep, k _ o (Ne.symm hL) ho, r⟩
  · refine (I.hok b u e).stay (fun c v hc q => k c v ?_ q) (fun _ q => q) fun _ _ q => q
    rcases hc with z | z
    · rw [z]; exact nit b u e
    · exact nit c _ z
theorem Inv.tok (I : Inv X pins σ H s) (t : Nat) : Inv X pins σ H { s with toks := t } := I.un (h' := s.heap) (t' := t) Un.refl I.hok
theorem Inv.kept {t' : Nat} (I : Inv X pins σ H s) (k : ∀ b u, s.heap.get? b = some u → h'.get? b = some u) : Inv X pins σ H { s with heap := h', toks := t' } := I.un (Un.kept k) (I.hok.kept k)
theorem Inv.laid {a : Addr} {o : HO} {t' : Nat} (I : Inv X pins σ H s) (k : ∀ b u, s.heap.get? b = some u → h'.get? b = some u) (hp : s.heap.objs.size ≤ a) (new : ObjOk X.prog X.w (upd H a o) h' a o) :
    Inv X pins σ (upd H a o) { s with heap := h', toks := t' } := I.un (Un.laid k hp (I.hok.fresh hp)) (I.hok.laid k hp new)
theorem Inv.write {x e : Addr} {o : HO} {t' : Nat} (I : Inv X pins σ H s) (mu : Mut (H x)) (he : e = x ∨ H e = some (.own x)) (k : ∀ b u, b ≠ e → s.heap.get? b = some u → h'.get? b = some u) (heo : ∃ u, h'.get? e = some u)
    (new : ObjOk X.prog X.w (upd H x o) h' x o) : Inv X pins σ (upd H x o) { s with heap := h', toks := t' } := I.un (Un.write mu he k heo) (I.hok.write mu he k heo new)
theorem Inv.weak {σ' : List (Option V)} (I : Inv X pins σ H s) (hl : σ'.length = σ.length) (w : ∀ (i : Nat) v, σ'[i]? = some (some v) → σ[i]? = some (some v)) : Inv X pins σ' H s :=
  ⟨I.ok, I.os, I.bare, I.base, let ⟨m, hn, hl'⟩ := I.loc; ⟨m, hn, fun i x v e1 e2 e3 => hl' i x v e1 (w i v e2) e3⟩, I.cell, I.free, I.freeC, I.pin, I.hok, hl.trans I.len⟩
theorem Inv.pins_of {pins' : List (Addr × Obj)} (I : Inv X pins σ H s) (h : ∀ p ∈ pins', s.heap.get? p.1 = some p.2 ∧ H p.1 = none ∧ p.1 ≠ X.env.locals ∧ p.1 ∉ X.fs ∧ ∀ v, p.2.data ≠ .cell v) : Inv X pins' σ H s :=
  ⟨I.ok, I.os, I.bare, I.base, I.loc, I.cell, I.free, I.freeC, fun p hp => (List.mem_append.mp hp).elim (fun z => I.pin p (List.mem_append_left _ z)) (h p), I.hok, I.len⟩
theorem nodup_ix {N : List Str} (hN : N.Nodup) {i j : Nat} {x : Str} (a : N[i]? = some x) (b : N[j]? = some x) : i = j := by
  obtain ⟨h1, e1⟩ := List.getElem?_eq_some_iff.mp a
  obtain ⟨h2, e2⟩ := List.getElem?_eq_some_iff.mp b
  exact (List.getElem_inj hN).mp (e1.trans e2.symm)
theorem store_ok2 {M : Model} {A : Around} {E : Value → Shared → Prop} {i : Nat} {x : Str} {v : V} {u : Value} {Q : Unit → Shared → Prop} (I : Inv X pins σ H s) (hN : X.N.Nodup) (hi : X.N[i]? = some x) (hx : Loc X.env.scope x) (r : RelV v u)
    (h : ∀ s', Inv X pins (σ.set i (some v)) H s' → (∃ a, Heap.SameBut a s.heap s'.heap ∧ (a = X.env.locals ∨ X.env.cells.lookup x = some a)) → Q () s') (hf : X.fn x = true ∨ X.env.scope.names.lookup x = some .local := by first | exact .inl rfl | exact .inr rfl | assumption) : wpAny M A (storeName X.env x u) Q E s := by
  obtain ⟨m, hn, hl⟩ := id I.loc
  have hcls : (X.env.scope.kind == .class || (X.env.scope.kind == .module && X.env.locals != X.env.globals)) = false := by rw [I.ok.kind]; rfl
  have hiσ : i < σ.length := by rw [I.len]; exact (List.getElem?_eq_some_iff.mp hi).1
  have cne := I.cne
  have tracked : ∀ {a : Addr} {h' : Heap}, (∃ o, s.heap.get? a = some o ∧ H a = none) → Heap.SameBut a s.heap h' → HOk X.prog X.w H h' := fun {a h'} ha hs b ob e => by
    obtain ⟨_, _, hfree⟩ := ha
    refine (I.hok b ob e).stay (fun c w' hc q => (hs.2 c ?_).trans q) (fun _ q => q) fun _ _ q => q
    rintro rfl
    rcases hc with rfl | hc
    · rw [hfree] at e; cases e
    · rw [hfree] at hc; cases hc
  rcases hx with hk | hk
  · refine wpAny_storeName_local hk hn (fun h' hn' hs => ?_) hcls
    obtain ⟨oL, _, _, hoL, _⟩ := id hn
    refine h _ ⟨I.ok, I.os, I.bare, ⟨fun b o e n hb hx => ?_, fun b o e n hb hx => ?_, I.base.free, fun b o e hx => ?_, I.base.tups, I.base.frzs, I.base.tbls⟩, ⟨_, hn', fun j y v' e1 e2 e3 => ?_⟩, fun y c e => ?_, I.free, I.freeC, fun p hp => ?_, tracked ⟨oL, hoL, I.free⟩ hs, by simpa using I.len⟩ ⟨_, hs, .inl rfl⟩
    · exact (hs.2 b (Nat.ne_of_lt (Nat.lt_of_lt_of_le (Heap.lt_size e) I.ok.above))).trans (I.base.keep b o e n hb hx)
    · obtain ⟨sl, e1⟩ := I.base.slot b o e n hb hx
      exact ⟨sl, (hs.2 b (Nat.ne_of_lt (Nat.lt_of_lt_of_le (Heap.lt_size e) I.ok.above))).trans e1⟩
    · obtain ⟨o', e1⟩ := I.base.there b o e hx
      exact ⟨o', (hs.2 b (Nat.ne_of_lt (Nat.lt_of_lt_of_le (Heap.lt_size e) I.ok.above))).trans e1⟩
    · by_cases hj : j = i
      · subst hj
        rw [hi] at e1; cases e1
        rw [List.getElem?_set_self hiσ] at e2
        cases e2
        exact ⟨u, r, .inl ⟨hk, by simp⟩⟩
      · rw [List.getElem?_set_ne (Ne.symm hj)] at e2
        obtain ⟨u', r', q⟩ := hl j y v' e1 e2 e3
        refine ⟨u', r', ?_⟩
        rcases q with ⟨k, e⟩ | ⟨k, c, e, z⟩
        · refine .inl ⟨k, ?_⟩
          have : y ≠ x := fun e => hj (nodup_ix hN e1 (e ▸ hi))
          simp [this, e]
        · exact .inr ⟨k, c, e, z.sameBut hs (cne y c e)⟩
    · obtain ⟨w', z⟩ := I.cell y c e
      exact ⟨w', z.sameBut hs (cne y c e)⟩
    · obtain ⟨e, n, ne, nf, d⟩ := I.pin p hp
      exact ⟨(hs.2 p.1 ne).trans e, n, ne, nf, d⟩
  · have hfn : X.fn x = true := by
      rcases hf with z | z
      · exact z
      · rw [z] at hk; cases hk
    obtain ⟨c, hc⟩ := I.ok.has x (.inl hk)
    obtain ⟨w', z⟩ := I.cell x c hc
    refine wpAny_storeName_cell I.ok.kind hk hc z (fun h' hc' hs => ?_)
    obtain ⟨oc, hoc, hocd⟩ := id z
    refine h { s with heap := h' } ⟨I.ok, I.os, I.bare, ⟨fun b o e n hb hx => ?_, fun b o e n hb hx => ?_, I.base.free, fun b o e hx => ?_, I.base.tups, I.base.frzs, I.base.tbls⟩, ⟨m, hn.sameBut hs (Ne.symm (cne x c hc)), fun j y v' e1 e2 e3 => ?_⟩, fun y c' e => ?_, I.free, I.freeC, fun p hp => ?_, tracked ⟨oc, hoc, I.freeC x c hc⟩ hs, by simpa using I.len⟩ ⟨c, hs, .inr hc⟩
    · exact (hs.2 b (Nat.ne_of_lt (Nat.lt_of_lt_of_le (Heap.lt_size e) (I.ok.cab x c hfn hc)))).trans (I.base.keep b o e n hb hx)
    · obtain ⟨sl, e1⟩ := I.base.slot b o e n hb hx
      exact ⟨sl, (hs.2 b (Nat.ne_of_lt (Nat.lt_of_lt_of_le (Heap.lt_size e) (I.ok.cab x c hfn hc)))).trans e1⟩
    · obtain ⟨o', e1⟩ := I.base.there b o e hx
      exact ⟨o', (hs.2 b (Nat.ne_of_lt (Nat.lt_of_lt_of_le (Heap.lt_size e) (I.ok.cab x c hfn hc)))).trans e1⟩
    · by_cases hj : j = i
      · subst hj
        rw [hi] at e1; cases e1
        rw [List.getElem?_set_self hiσ] at e2
        cases e2
        exact ⟨u, r, .inr ⟨.inl hk, c, hc, hc'⟩⟩
      · rw [List.getElem?_set_ne (Ne.symm hj)] at e2
        obtain ⟨u', r', q⟩ := hl j y v' e1 e2 e3
        refine ⟨u', r', ?_⟩
        rcases q with q | ⟨k, c', e, z'⟩
        · exact .inl q
        · refine .inr ⟨k, c', e, z'.sameBut hs ?_⟩
          rintro rfl
          exact hj (nodup_ix hN e1 (I.ok.inj _ _ _ e hc ▸ hi))
    · by_cases hcc : c' = c
      · subst hcc; exact ⟨_, hc'⟩
      · obtain ⟨w2, z2⟩ := I.cell y c' e
        exact ⟨w2, z2.sameBut hs hcc⟩
    · obtain ⟨e, n, ne, nf, d⟩ := I.pin p hp
      refine ⟨(hs.2 p.1 ?_).trans e, n, ne, nf, d⟩
      intro q
      rw [q, hoc] at e
      have q' : oc = p.2 := Option.some.inj e
      exact d w' (by rw [← q']; exact hocd)
theorem store_ok {M : Model} {A : Around} {E : Value → Shared → Prop} {i : Nat} {x : Str} {v : V} {u : Value} {Q : Unit → Shared → Prop} (I : Inv X pins σ H s) (hN : X.N.Nodup) (hi : X.N[i]? = some x) (hx : Loc X.env.scope x) (r : RelV v u)
    (h : ∀ s', Inv X pins (σ.set i (some v)) H s' → Q () s') (hf : X.fn x = true ∨ X.env.scope.names.lookup x = some .local := by first | exact .inl rfl | exact .inr rfl | assumption) : wpAny M A (storeName X.env x u) Q E s :=
  store_ok2 I hN hi hx r (fun s' I' _ => h s' I') hf
theorem Inv.call' {s' : Shared} {ch : List Addr} (I : Inv X pins σ H s) (ho : s'.os = s.os) (u : Un (frs X.stack) ch H H' s.heap s'.heap) (hok : HOk X.prog X.w H' s'.heap) (hg : AllBare s'.gens)
    (hch : ∀ b ∈ ch, (b ∈ X.ex ∨ X.s₀.heap.objs.size ≤ b) ∧ b ≠ X.env.locals ∧ (∀ x c, X.env.cells.lookup x = some c → c ≠ b) ∧ ∀ p ∈ X.pn ++ pins, p.1 ≠ b) : Inv X pins σ H' s' := by
  obtain ⟨h', g', d', t', o'⟩ := s'
  have e : o' = s.os := ho
  subst e
  exact I.call (g' := g') (t' := t') (d' := d') u hok hg hch
end
abbrev XK := Value → Option Addr → Hp → Prop
abbrev St := List (Option V)
abbrev VK := V → Hp → Prop
abbrev TE := St → Hp → VK → Prop
abbrev TT := St → Hp → (Bool → Hp → Prop) → Prop
abbrev TA := St → Hp → (List V → Hp → Prop) → Prop
structure Ends where
  nx : St → Hp → Prop
  rt : VK
  bk : St → Hp → Prop := fun _ _ => False
  ct : St → Hp → Prop := fun _ _ => False
abbrev TS := Ends → St → Hp → Prop
def EP (X : Cx) (pins : List (Addr × Obj)) (σ : St) (Q : VK) (u : Value) (s' : Shared) : Prop := ∃ v H', Inv X pins σ H' s' ∧ RelV v u ∧ Q v H'
def TP (X : Cx) (pins : List (Addr × Obj)) (σ : St) (Q : Bool → Hp → Prop) (b : Bool) (s' : Shared) : Prop := ∃ H', Inv X pins σ H' s' ∧ Q b H'
def AP (X : Cx) (pins : List (Addr × Obj)) (σ : St) (Q : List V → Hp → Prop) (us : List Value) (s' : Shared) : Prop := ∃ vs H', Inv X pins σ H' s' ∧ Vals vs us ∧ Q vs H'
def SP (X : Cx) (pins : List (Addr × Obj)) (D : Ends) (f : Flow) (s' : Shared) : Prop :=
  match f with
  | .next => ∃ σ' H', Inv X pins σ' H' s' ∧ D.nx σ' H'
  | .brk => ∃ σ' H', Inv X pins σ' H' s' ∧ D.bk σ' H'
  | .cont => ∃ σ' H', Inv X pins σ' H' s' ∧ D.ct σ' H'
  | .ret u => ∃ v σ' H', Inv X pins σ' H' s' ∧ RelV v u ∧ D.rt v H'
def PE (X : Cx) (e : Expr) (t : TE) : Prop :=
  ∀ (pins : List (Addr × Obj)) (s : Shared) (σ : St) (H : Hp) (Q : VK), Inv X pins σ H s → t σ H Q → wpAny (model X.prog X.w) X.A (eval e X.env) (EP X pins σ Q) X.xe s
def PT (X : Cx) (e : Expr) (t : TT) : Prop :=
  ∀ (pins : List (Addr × Obj)) (s : Shared) (σ : St) (H : Hp) (Q : Bool → Hp → Prop), Inv X pins σ H s → t σ H Q → wpAny (model X.prog X.w) X.A (isTrue e X.env (eval e X.env)) (TP X pins σ Q) X.xe s
def PW (X : Cx) (e : Expr) (t : TT) : Prop :=
  ∀ (whole : Sem Value) (pins : List (Addr × Obj)) (s : Shared) (σ : St) (H : Hp) (Q : Bool → Hp → Prop), Inv X pins σ H s → t σ H Q → wpAny (model X.prog X.w) X.A (isTrue e X.env whole) (TP X pins σ Q) X.xe s
theorem PW.pt {X : Cx} {e : Expr} {t : TT} (h : PW X e t) : PT X e t := h _
def PA (X : Cx) (es : List Expr) (t : TA) : Prop :=
  ∀ (pos : Pos) (pins : List (Addr × Obj)) (s : Shared) (σ : St) (H : Hp) (Q : List V → Hp → Prop), Inv X pins σ H s → t σ H Q → wpAny (model X.prog X.w) X.A (spliced (backTo pos (starEach es X.env))) (AP X pins σ Q) X.xe s
def PS (X : Cx) (st : Stmt) (t : TS) : Prop :=
  ∀ (pins : List (Addr × Obj)) (s : Shared) (σ : St) (H : Hp) (D : Ends), Inv X pins σ H s → t D σ H → wpAny (model X.prog X.w) X.A (exec st X.env) (SP X pins D) X.xe s
def PSs (X : Cx) (st : List Stmt) (t : TS) : Prop :=
  ∀ (pins : List (Addr × Obj)) (s : Shared) (σ : St) (H : Hp) (D : Ends), Inv X pins σ H s → t D σ H → wpAny (model X.prog X.w) X.A (execs st X.env) (SP X pins D) X.xe s
theorem thn {α : Type} {t : Sem α} {Q Q' : α → Shared → Prop} {M : Model} {A : Around} {E : Value → Shared → Prop} {s : Shared} (h : wpAny M A t Q E s) (hQ : ∀ a s, Q a s → Q' a s) : wpAny M A t Q' E s := wpAny_mono h hQ fun _ _ x => x
end L2
namespace L2
open PySem PySem.Spec PyProof.Rows
section
variable {X : Cx}
abbrev tVar (i : Nat) : TE := fun σ H Q => ∃ v, σ[i]? = some (some v) ∧ Q v H
abbrev tC (v : V) : TE := fun _ H Q => Q v H
theorem pe_var {i : Nat} {x : Str} {pos : Pos} (hN : X.N[i]? = some x) (hv : Vis X.env.scope x) (hd : (x == ("__debug__" : Str)) = false := by decide) (hcd : (x == ("__classdict__" : Str)) = false := by decide) : PE X (.Name x pos) (tVar i) := by
  intro pins s σ H Q I h
  obtain ⟨v, e, h⟩ := h
  obtain ⟨m, hn, hl⟩ := I.loc
  obtain ⟨u, r, l⟩ := hl i x v hN e hv
  have fin : EP X pins σ Q u s := ⟨v, H, I, r, h⟩
  rcases l with ⟨hk, hm⟩ | ⟨hk, c, hc, hcell⟩
  · exact wpAny_Name (wpAny_loadName_local I.ok.kind hk hn hm fin) hd
  · rcases hk with hk | hk
    · exact wpAny_Name (wpAny_loadName_cell I.ok.kind hk hc hcell fin) hd
    · exact wpAny_Name (wpAny_loadName_free I.ok.kind hk hc hcell fin hcd) hd
theorem pe_int {i j pos} : PE X (.Constant (.int i) j pos) (tC (.int i)) := fun _ _ _ H _ I h => wpAny_Constant_int ⟨.int i, H, I.tok _, ⟨_, rfl⟩, h⟩
theorem pe_bl {b j pos} : PE X (.Constant (.bool b) j pos) (tC (.bl b)) := fun _ _ _ H _ I h => Constant_bool ⟨.bl b, H, I, rfl, h⟩
theorem pe_str {x j pos} : PE X (.Constant (.str x) j pos) (tC (.str x)) := fun _ _ _ H _ I h => Calls.Constant_str ⟨.str x, H, I.tok _, ⟨_, rfl⟩, h⟩
def Gl (X : Cx) (x : Str) : Prop := X.env.kindOf x = some .globalImplicit
theorem ld_glob {E : Value → Shared → Prop} {pins : List (Addr × Obj)} {s : Shared} {σ : St} {H : Hp} {x : Str} {u : Value} {pos : Pos} {Q : Value → Shared → Prop} (I : Inv X pins σ H s) (hg : Gl X x) (hm : X.mg x = some u) (h : Q u s)
    (hd : (x == ("__debug__" : Str)) = false := by decide) : wpAny (model X.prog X.w) X.A (eval (.Name x pos) X.env) Q E s :=
  Calls.Name_function_global I.ok.kind hg (Calls.loadGlobal_global (by rw [I.ok.glob]; exact I.mod.glob.keeps I.bk) hm h) hd
theorem ld_blt {E : Value → Shared → Prop} {pins : List (Addr × Obj)} {s : Shared} {σ : St} {H : Hp} {x : Str} {u : Value} {pos : Pos} {Q : Value → Shared → Prop} (I : Inv X pins σ H s) (hg : Gl X x) (hm : X.mg x = none) (hv : bootBuiltins x = some u) (h : Q u s)
    (hn : x ≠ "__name__" := by decide) (hd : (x == ("__debug__" : Str)) = false := by decide) : wpAny (model X.prog X.w) X.A (eval (.Name x pos) X.env) Q E s := by
  obtain ⟨mb, h1, h2⟩ := I.mod.blt
  exact Calls.Name_function_global I.ok.kind hg (Calls.loadGlobal_builtin (by rw [I.ok.glob]; exact I.mod.glob.keeps I.bk) hm (by rw [I.ok.blt]; exact h1.keeps I.bk) ((h2 x hn).trans hv) h) hd
theorem pe_bltn {x : Str} {v : V} {u : Value} {pos : Pos} (hg : Gl X x) (hm : X.mg x = none) (hv : bootBuiltins x = some u) (r : RelV v u) (hn : x ≠ "__name__" := by decide) (hd : (x == ("__debug__" : Str)) = false := by decide) : PE X (.Name x pos) (tC v) :=
  fun _ _ _ H _ I h => ld_blt I hg hm hv ⟨v, H, I, r, h⟩ hn hd
variable {a b : Expr} {ta tb : TE} {pos : Pos}
variable {tA tB' : TT} {rest : List Expr}
abbrev tAnd (t u : TT) : TT := fun σ H Q => t σ H fun c H1 => if c = true then u σ H1 Q else Q false H1
abbrev tOr (t u : TT) : TT := fun σ H Q => t σ H fun c H1 => if c = true then Q true H1 else u σ H1 Q
abbrev tNot (t : TT) : TT := fun σ H Q => t σ H fun c H1 => Q (!c) H1
theorem pw_and1 (ha : PT X a tA) : PW X (.BoolOp .And [a] pos) tA := by
  intro wh pins s σ H Q I h
  refine isTrue_and (thn (ha pins s σ H Q I h) fun c s1 e => ?_)
  cases c with
  | true => exact isTrue_and_nil e
  | false => exact e
theorem pw_or1 (ha : PT X a tA) : PW X (.BoolOp .Or [a] pos) tA := by
  intro wh pins s σ H Q I h
  refine isTrue_or (thn (ha pins s σ H Q I h) fun c s1 e => ?_)
  cases c with
  | false => exact isTrue_or_nil e
  | true => exact e
theorem pw_and (ha : PT X a tA) (hb : PW X (.BoolOp .And (b :: rest) pos) tB') : PW X (.BoolOp .And (a :: b :: rest) pos) (tAnd tA tB') := by
  intro wh pins s σ H Q I h
  refine isTrue_and (thn (ha pins s σ H _ I h) fun c s1 ⟨H1, I1, q1⟩ => ?_)
  cases c with
  | true => exact hb wh pins s1 σ H1 Q I1 q1
  | false => exact ⟨H1, I1, q1⟩
theorem pw_or (ha : PT X a tA) (hb : PW X (.BoolOp .Or (b :: rest) pos) tB') : PW X (.BoolOp .Or (a :: b :: rest) pos) (tOr tA tB') := by
  intro wh pins s σ H Q I h
  refine isTrue_or (thn (ha pins s σ H _ I h) fun c s1 ⟨H1, I1, q1⟩ => ?_)
  cases c with
  | true => exact ⟨H1, I1, q1⟩
  | false => exact hb wh pins s1 σ H1 Q I1 q1
theorem pt_not (ha : PT X a tA) : PT X (.UnaryOp .Not a pos) (tNot tA) := by
  intro pins s σ H Q I h
  exact isTrue_not (ha pins s σ H (fun c H1 => Q (!c) H1) I h)
abbrev tAndV (ta tb : TE) : TE := fun σ H Q => ta σ H fun x H1 => ∃ c, x = .bl c ∧ if c = true then tb σ H1 Q else Q (.bl false) H1
theorem pe_one {op} {t : TE} (h : PE X a t) : PE X (.BoolOp op [a] pos) t := fun pins s σ H Q I hw => BoolOp_one (h pins s σ H Q I hw)
theorem pe_and (ha : PE X a ta) (hb : PE X (.BoolOp .And (b :: rest) pos) tb) : PE X (.BoolOp .And (a :: b :: rest) pos) (tAndV ta tb) := by
  intro pins s σ H Q I h
  refine BoolOp_and (thn (ha pins s σ H _ I h) fun v s1 ⟨x, H1, I1, r1, q1⟩ => ?_)
  obtain ⟨c, rfl, q1⟩ := q1
  cases r1
  refine wpAny_truthy_bool ?_
  cases c with
  | true => exact hb pins s1 σ H1 Q I1 q1
  | false => exact ⟨.bl false, H1, I1, rfl, q1⟩
end
end L2
namespace L2
open PySem PySem.Spec PyProof.Rows
def SqL (K : PySem.W.Frag) (H : Hp) (a : Addr) (xs : List V) : Prop :=
  Rd H a (.lst xs) ∨
    ∃ (o : Obj) (its : Array Value) (n : Nat), K.lookup a = some o ∧ o.cls = .type "list" ∧ o.dict = none ∧ o.data = .seq its n ∧ its.size ≤ sizeLine ∧ Vals xs its.toList
def SqT (K : PySem.W.Frag) (H : Hp) (a : Addr) (xs : List V) : Prop :=
  Rd H a (.tup xs) ∨
    ∃ (o : Obj) (its : Array Value) (n : Nat), K.lookup a = some o ∧ o.cls = .type "tuple" ∧ o.data = .seq its n ∧ its.size ≤ sizeLine ∧ Vals xs its.toList
def absV : Value → Option V
  | .none => some .non
  | .bool b => some (.bl b)
  | .int i _ => some (.int i)
  | .str x _ => some (.str x)
  | .bytes b _ => some (.byt b)
  | .float b _ => some (.flt b)
  | .ref a => some (.ref a)
  | .type n => some (.ty n)
  | _ => none
theorem RelV.abs {x : V} {u : Value} (r : RelV x u) : absV u = some x := by
  cases x with
  | non => cases r; rfl
  | bl _ => cases r; rfl
  | int _ => obtain ⟨t, rfl⟩ := r; rfl
  | str _ => obtain ⟨t, rfl⟩ := r; rfl
  | byt _ => obtain ⟨t, rfl⟩ := r; rfl
  | flt _ => obtain ⟨t, rfl⟩ := r; rfl
  | ref _ => cases r; rfl
  | ty _ => cases r; rfl
theorem RelV.inj {x y : V} {u : Value} (r : RelV x u) (q : RelV y u) : x = y := Option.some.inj (r.abs.symm.trans q.abs)
theorem Vals.inj : ∀ {xs ys : List V} {us : List Value}, Vals xs us → Vals ys us → xs = ys
  | _, _, _, .nil, .nil => rfl
  | _, _, _, .cons r t, .cons r' t' => by rw [r.inj r', Vals.inj t t']
section
variable {X : Cx} {pins : List (Addr × Obj)} {σ : St} {H : Hp} {s : Shared} {a : Addr} {xs ys : List V}
theorem SqL.of {K : PySem.W.Frag} (h : H a = some (.lst xs)) : SqL K H a xs := .inl (.inl h)
theorem SqT.of {K : PySem.W.Frag} (h : H a = some (.tup xs)) : SqT K H a xs := .inl (.inl h)
theorem Inv.list (I : Inv X pins σ H s) (h : SqL X.K H a xs) : ∃ its : List Value, Vals xs its ∧ PlainL s.heap a its.toArray ∧ xs.length ≤ sizeLine := by
  rcases h with h | ⟨o, its, n, hk, hc, hd, hs, hz, r⟩
  · obtain ⟨z, its, n, r, e⟩ := h.ok I.hok
    exact ⟨its, r, ⟨_, n, e, rfl, rfl, rfl⟩, z⟩
  · refine ⟨its.toList, r, ⟨o, n, I.kIn a o hk, hc, hd, by simpa using hs⟩, ?_⟩
    have e := r.length
    simp only [Array.length_toList] at e
    omega
theorem Inv.tuple (I : Inv X pins σ H s) (h : SqT X.K H a xs) : ∃ its : List Value, Vals xs its ∧ IsTup s.heap a its.toArray ∧ xs.length ≤ sizeLine := by
  rcases h with h | ⟨o, its, n, hk, hc, hs, hz, r⟩
  · obtain ⟨z, its, r, p⟩ := h.ok I.hok
    exact ⟨its, r, p.tup, z⟩
  · refine ⟨its.toList, r, ⟨o, I.kIn a o hk, hc, n, by simpa using hs⟩, ?_⟩
    have e := r.length
    simp only [Array.length_toList] at e
    omega
theorem Inv.list_inj (I : Inv X pins σ H s) (h : SqL X.K H a xs) (h' : SqL X.K H a ys) : xs = ys := by
  obtain ⟨its, r, ⟨o, n, e, _, _, d⟩, _⟩ := I.list h
  obtain ⟨its', r', ⟨o', n', e', _, _, d'⟩, _⟩ := I.list h'
  rw [e] at e'; cases e'
  rw [d] at d'
  injection d' with d1 _
  have : its = its' := by simpa using congrArg Array.toList d1
  subst this
  exact r.inj r'
theorem Inv.tuple_inj (I : Inv X pins σ H s) (h : SqT X.K H a xs) (h' : SqT X.K H a ys) : xs = ys := by
  obtain ⟨its, r, ⟨o, e, _, n, d⟩, _⟩ := I.tuple h
  obtain ⟨its', r', ⟨o', e', _, n', d'⟩, _⟩ := I.tuple h'
  rw [e] at e'; cases e'
  rw [d] at d'
  injection d' with d1 _
  have : its = its' := by simpa using congrArg Array.toList d1
  subst this
  exact r.inj r'
end
abbrev Cx.wish (X : Cx) (E : Value → Shared → Prop) : Cx := { X with xe := E }
abbrev Cx.nox (X : Cx) : Cx := X.wish fun _ _ => False
theorem Cx.Ok.wish {X : Cx} (ok : X.Ok) (E : Value → Shared → Prop) : (X.wish E).Ok :=
  ⟨ok.mod, ok.kind, ok.glob, ok.blt, ok.above, ok.inj, ok.has, ok.cab, ok.hd, ok.frames, ok.stk, ok.exf, ok.bs, ok.bsz, ok.noex, ok.exfs, ok.funs, ok.frf⟩
theorem Cx.Ok.unwish {X : Cx} {E : Value → Shared → Prop} (ok : (X.wish E).Ok) : X.Ok :=
  ⟨ok.mod, ok.kind, ok.glob, ok.blt, ok.above, ok.inj, ok.has, ok.cab, ok.hd, ok.frames, ok.stk, ok.exf, ok.bs, ok.bsz, ok.noex, ok.exfs, ok.funs, ok.frf⟩
section
variable {X : Cx} {pins : List (Addr × Obj)} {σ : St} {H : Hp} {s : Shared} {E : Value → Shared → Prop}
theorem Inv.wish (I : Inv X pins σ H s) (E : Value → Shared → Prop) : Inv (X.wish E) pins σ H s := ⟨I.ok.wish E, I.os, I.bare, I.base, I.loc, I.cell, I.free, I.freeC, I.pin, I.hok, I.len⟩
theorem Inv.unwish (I : Inv (X.wish E) pins σ H s) : Inv X pins σ H s := ⟨I.ok.unwish, I.os, I.bare, I.base, I.loc, I.cell, I.free, I.freeC, I.pin, I.hok, I.len⟩
theorem SP.unwish {D : Ends} {f : Flow} {s' : Shared} (h : SP (X.wish E) pins D f s') : SP X pins D f s' := by
  cases f with
  | next => obtain ⟨σ', H', I, q⟩ := h; exact ⟨σ', H', I.unwish, q⟩
  | brk => obtain ⟨σ', H', I, q⟩ := h; exact ⟨σ', H', I.unwish, q⟩
  | cont => obtain ⟨σ', H', I, q⟩ := h; exact ⟨σ', H', I.unwish, q⟩
  | ret u => obtain ⟨v, σ', H', I, r, q⟩ := h; exact ⟨v, σ', H', I.unwish, r, q⟩
theorem PE.nox {e : Expr} {t : TE} (h : PE X.nox e t) : PE X e t := fun pins s σ H Q I hw =>
  wpAny_mono (h pins s σ H Q (I.wish _) hw) (fun _ _ ⟨v, H', I', r, q⟩ => ⟨v, H', I'.unwish, r, q⟩) fun _ _ z => False.elim z
theorem PT.nox {e : Expr} {t : TT} (h : PT X.nox e t) : PT X e t := fun pins s σ H Q I hw =>
  wpAny_mono (h pins s σ H Q (I.wish _) hw) (fun _ _ ⟨H', I', q⟩ => ⟨H', I'.unwish, q⟩) fun _ _ z => False.elim z
theorem PSs.nox {st : List Stmt} {t : TS} (h : PSs X.nox st t) : PSs X st t := fun pins s σ H D I hw =>
  wpAny_mono (h pins s σ H D (I.wish _) hw) (fun _ _ q => q.unwish) fun _ _ z => False.elim z
end
section
variable {X : Cx} {st : Stmt} {rest : List Stmt} {t u : TS} {e : Expr} {te : TE} {pos : Pos}
abbrev tNext : TS := fun D σ H => D.nx σ H
abbrev tSeq (t u : TS) : TS := fun D σ H => t { D with nx := u D } σ H
theorem pss_nil : PSs X [] tNext := fun _ _ σ H _ I h => wpAny_execs_nil ⟨σ, H, I, h⟩
theorem pss_cons (h1 : PS X st t) (h2 : PSs X rest u) : PSs X (st :: rest) (tSeq t u) := by
  intro pins s σ H D I h
  refine wpAny_execs_cons (thn (h1 pins s σ H { D with nx := u D } I h) fun f s1 q => ?_)
  cases f with
  | next =>
    obtain ⟨σ', H', I', q⟩ := q
    exact h2 pins s1 σ' H' D I' q
  | ret v => exact q
  | brk => exact q
  | cont => exact q
theorem pss_one (h1 : PS X st t) : PSs X [st] t := by
  intro pins s σ H D I h
  refine wpAny_execs_cons (thn (h1 pins s σ H D I h) fun f s1 q => ?_)
  cases f with
  | next => exact wpAny_execs_nil q
  | ret v => exact q
  | brk => exact q
  | cont => exact q
theorem Inv.quiet {pins : List (Addr × Obj)} {σ : St} {H : Hp} {s : Shared} (I : Inv X pins σ H s) : interactive X.env = false := by simp [interactive, I.ok.kind]
abbrev tDrop (te : TE) : TS := fun D σ H => te σ H fun _ H1 => D.nx σ H1
theorem ps_expr (he : PE X e te) (hs : swapsWith e none pos.line X.env = pure false := by rfl) : PS X (.Expr e pos) (tDrop te) := by
  intro pins s σ H D I h
  exact wpAny_Expr_any (thn (he pins s σ H _ I h) fun v s1 ⟨x, H1, I1, r1, q1⟩ => ⟨σ, H1, I1, q1⟩) I.quiet hs
abbrev tRet (te : TE) : TS := fun D σ H => te σ H D.rt
theorem ps_ret (he : PE X e te) : PS X (.Return (some e) pos) (tRet te) := by
  intro pins s σ H D I h
  exact wpAny_Return_some (thn (he pins s σ H _ I h) fun v s1 ⟨x, H1, I1, r1, q1⟩ => ⟨x, σ, H1, I1, r1, q1⟩)
abbrev tIfS (c : TT) (t u : TS) : TS := fun D σ H => c σ H fun b H1 => if b = true then t D σ H1 else u D σ H1
theorem ps_if {c : Expr} {a b : List Stmt} {tc : TT} (hc : PT X c tc) (ha : PSs X a t) (hb : PSs X b u) : PS X (.If c a b pos) (tIfS tc t u) := by
  intro pins s σ H D I h
  refine wpAny_If (thn (hc pins s σ H _ I h) fun d s1 ⟨H1, I1, q1⟩ => ?_)
  cases d with
  | true => exact ha pins s1 σ H1 D I1 q1
  | false => exact hb pins s1 σ H1 D I1 q1
end
abbrev TG := V → St → Hp → (St → Hp → Prop) → Prop
abbrev TGs := List V → St → Hp → (St → Hp → Prop) → Prop
def PG (X : Cx) (target : Expr) (t : TG) : Prop :=
  ∀ (pins : List (Addr × Obj)) (s : Shared) (σ : St) (H : Hp) (v : V) (u : Value) (Q : St → Hp → Prop), Inv X pins σ H s → RelV v u → t v σ H Q →
    wpAny (model X.prog X.w) X.A (assign target X.env u) (fun _ s' => ∃ σ' H', Inv X pins σ' H' s' ∧ Q σ' H') X.xe s
def PGs (X : Cx) (ts : List Expr) (t : TGs) : Prop :=
  ∀ (pins : List (Addr × Obj)) (s : Shared) (σ : St) (H : Hp) (vs : List V) (us : List Value) (Q : St → Hp → Prop), Inv X pins σ H s → Vals vs us → t vs σ H Q →
    wpAny (model X.prog X.w) X.A (assignInOrder ((assignEach ts X.env).map (·.2)) us) (fun _ s' => ∃ σ' H', Inv X pins σ' H' s' ∧ Q σ' H') X.xe s
abbrev TSet := V → V → V → Hp → (Hp → Prop) → Prop
def PSet (X : Cx) (t : TSet) : Prop :=
  ∀ (pins : List (Addr × Obj)) (s : Shared) (σ : St) (H : Hp) (o i v : V) (ov iv u : Value) (Q : Hp → Prop), Inv X pins σ H s → RelV o ov → RelV i iv → RelV v u → t o i v H Q →
    wpAny (model X.prog X.w) X.A (setItem ov iv u) (fun _ s' => ∃ H', Inv X pins σ H' s' ∧ Q H') X.xe s
section
variable {X : Cx} {pos : Pos}
abbrev gName (i : Nat) : TG := fun v σ H Q => Q (σ.set i (some v)) H
theorem pg_name {i : Nat} {x : Str} (hN : X.N.Nodup) (hi : X.N[i]? = some x) (hx : Loc X.env.scope x) (hf : X.fn x = true ∨ X.env.scope.names.lookup x = some .local := by first | exact .inl rfl | exact .inr rfl | assumption) : PG X (.Name x pos) (gName i) := by
  intro pins s σ H v u Q I r h
  exact wpAny_assign_Name (store_ok I hN hi hx r (fun s' I' => ⟨_, H, I', h⟩) hf)
abbrev gNil : TGs := fun vs σ H Q => vs = [] ∧ Q σ H
abbrev gCons (t : TG) (u : TGs) : TGs := fun vs σ H Q => ∃ v r, vs = v :: r ∧ t v σ H fun σ' H' => u r σ' H' Q
theorem pgs_nil : PGs X [] gNil := by
  intro pins s σ H vs us Q I r h
  obtain ⟨e, h⟩ := h
  subst e
  cases r
  exact assignInOrder_nil ⟨σ, H, I, h⟩
theorem pgs_cons {e : Expr} {es : List Expr} {t : TG} {u : TGs} (h1 : PG X e t) (h2 : PGs X es u)
    (hs : (assignEach (e :: es) X.env).map (·.2) = assign e X.env :: (assignEach es X.env).map (·.2) := by rfl) : PGs X (e :: es) (gCons t u) := by
  intro pins s σ H vs us Q I r h
  obtain ⟨v, vr, e1, h⟩ := h
  subst e1
  cases r with
  | cons r rr =>
    rw [hs]
    refine assignInOrder_cons (thn (h1 pins s σ H _ _ _ I r h) fun _ s1 ⟨σ1, H1, I1, q1⟩ => ?_)
    exact h2 pins s1 σ1 H1 _ _ Q I1 rr q1
abbrev gTup (K : PySem.W.Frag) (n : Nat) (t : TGs) : TG := fun v σ H Q => ∃ a xs, v = .ref a ∧ SqT K H a xs ∧ xs.length = n ∧ t xs σ H Q
theorem pg_tup {es : List Expr} {k : Nat} {t : TGs} {n : Nat} (hc : X.calm = true) (h : PGs X es t)
    (hn : (assignEach es X.env).length = n := by rfl) (hst : (assignEach es X.env).findIdx? (·.1) = none := by rfl) : PG X (.Tuple es k pos) (gTup X.K n t) := by
  intro pins s σ H v u Q I r hw
  obtain ⟨a, xs, e1, hq, hl, hw⟩ := hw
  subst e1
  cases r
  obtain ⟨its, rv, ht, hz⟩ := I.tuple hq
  refine assign_Tuple_tuple (I.ok.hd hc) ht (by simp [hn, ← hl, rv.length]) hst fun h' hx => ?_
  have I1 : Inv X pins σ H { s with heap := h' } := I.kept (t' := s.toks) fun b o e => hx b o (Nat.ne_of_lt (Heap.lt_size e)) e
  exact h pins _ σ H xs _ Q I1 (by simpa using rv) hw
abbrev gSub (to ti : TE) (t : TSet) : TG := fun v σ H Q => to σ H fun o H1 => ti σ H1 fun i H2 => t o i v H2 fun H3 => Q σ H3
theorem pg_sub {o i : Expr} {to ti : TE} {t : TSet} (ho : PE X o to) (hi : PE X i ti) (hs : PSet X t)
    (ha : ∀ v, assign (.Subscript o i pos) X.env v = (do
      let ov ← holding [v] (eval o X.env)
      let iv ← holding [v, ov] (eval i X.env)
      standAt pos
      holding [v, ov, iv] (setItem ov iv v)
      release [v, ov, iv] []) := by intro _; rfl) : PG X (.Subscript o i pos) (gSub to ti t) := by
  intro pins s σ H v u Q I r h
  rw [ha]
  refine wpAny_bind (wpAny_holding (thn (ho pins s σ H _ I h) fun ov s1 ⟨x, H1, I1, r1, q1⟩ => ?_))
  refine wpAny_bind (wpAny_holding (thn (hi pins s1 σ H1 _ I1 q1) fun iv s2 ⟨y, H2, I2, r2, q2⟩ => ?_))
  refine wpAny_bind (wpAny_standAt (wpAny_bind (wpAny_holding (thn (hs pins s2 σ H2 x y v ov iv u _ I2 r1 r2 r q2) fun _ s3 ⟨H3, I3, q3⟩ => ?_))))
  exact wpAny_release ⟨σ, H3, I3, q3⟩
abbrev tAsg (te : TE) (g : TG) : TS := fun D σ H => te σ H fun x H1 => g x σ H1 D.nx
theorem ps_asg {tg e : Expr} {te : TE} {g : TG} (he : PE X e te) (hg : PG X tg g) (hs : swapsWithSole [tg] e pos.line X.env = pure false := by rfl) (hw : swappedStores [tg] e X.env = pure none := by rfl)
    (h1 : (assignEach [tg] X.env).map (·.2) = [assign tg X.env] := by rfl) : PS X (.Assign [tg] e pos) (tAsg te g) := by
  intro pins s σ H D I h
  refine wpAny_Assign_stores (thn (he pins s σ H _ I h) fun v s1 ⟨x, H1, I1, r1, q1⟩ => ?_) hs hw
  rw [h1]
  exact thn (hg pins s1 σ H1 x v _ I1 r1 q1) fun _ s2 q => q
theorem ps_set {i : Nat} {x : Str} {e : Expr} {te : TE} {pos' : Pos} (hN : X.N.Nodup) (hi : X.N[i]? = some x) (hx : Loc X.env.scope x) (he : PE X e te) (hs : swapsWith e (some (.Name x pos')) pos.line X.env = pure false := by rfl) (hf : X.fn x = true ∨ X.env.scope.names.lookup x = some .local := by first | exact .inl rfl | exact .inr rfl | assumption) :
    PS X (.Assign [.Name x pos'] e pos) (tAsg te (gName i)) := by
  intro pins s σ H D I h
  refine wpAny_Assign_Name (thn (he pins s σ H _ I h) fun v s1 ⟨y, H1, I1, r1, q1⟩ => ?_) hs
  exact store_ok I1 hN hi hx r1 (fun s2 I2 => ⟨_, H1, I2, q1⟩) hf
abbrev tPar (i j : Nat) (ta : TA) : TS := fun D σ H => ta σ H fun vs H1 => ∃ v w, vs = [v, w] ∧ D.nx ((σ.set i (some v)).set j (some w)) H1
theorem ps_par {i j : Nat} {x y : Str} {a b : Expr} {ta : TA} {px py pt : Pos} {kt k2 pt2} (hc : X.calm = true) (hN : X.N.Nodup) (hi : X.N[i]? = some x) (hj : X.N[j]? = some y) (hij : i ≠ j)
    (hx : X.env.scope.names.lookup x = some .local) (hy : X.env.scope.names.lookup y = some .local) (ha : PA X [a, b] ta)
    (hw : swappedStores [.Tuple [.Name x px, .Name y py] kt pt] (.Tuple [a, b] k2 pt2) X.env = pure (some [x, y]))
    (hs : swapsWithSole [.Tuple [.Name x px, .Name y py] kt pt] (.Tuple [a, b] k2 pt2) pos.line X.env = pure false := by rfl) :
    PS X (.Assign [.Tuple [.Name x px, .Name y py] kt pt] (.Tuple [a, b] k2 pt2) pos) (tPar i j ta) := by
  intro pins s σ H D I h
  rw [exec_Assign_arm]
  refine wpAny_bind (wpAny_standAt ?_)
  rw [hs]
  refine wpAny_bind (wpAny_pure ?_)
  rw [if_neg (by decide)]
  refine wpAny_bind (Tuple_ (thn (ha _ pins s σ H _ I h) fun us s1 ⟨vs, H1, I1, r1, q1⟩ => ?_))
  obtain ⟨v, w, e1, q1⟩ := q1
  subst e1
  obtain ⟨u1, u2, rfl, rv, rw'⟩ : ∃ u1 u2, us = [u1, u2] ∧ RelV v u1 ∧ RelV w u2 := by
    cases r1 with
    | cons p q =>
      cases q with
      | cons p' q' =>
        cases q'
        exact ⟨_, _, rfl, p, p'⟩
  refine wpAny_newObj_type ?_ (by show 2 ≤ sizeLine; decide)
  have I2 : Inv X pins σ H1 { s1 with heap := s1.heap.push { cls := .type "tuple", data := .seq [u1, u2].toArray } } := I1.kept (t' := s1.toks) fun b o e => Heap.get?_push_of_some _ e
  rw [hw]
  refine wpAny_bind (wpAny_pure ?_)
  show wpAny (model X.prog X.w) X.A (do rule "assign.swapped-stores"; let items ← unpackItems (.ref s1.heap.objs.size) 2 none; assignInOrder [fun v => bindName X.env y v, fun v => bindName X.env x v] items.reverse; pure Flow.next) _ _ _
  refine wpAny_bind (wpAny_rule (wpAny_bind (unpackItems_tuple (items := #[u1, u2]) (I.ok.hd hc) (IsTup.new s1.heap _) fun h' hx' => ?_)))
  have I3 := I2.kept (h' := h') (t' := s1.toks) fun b o e => hx' b o (Nat.ne_of_lt (Heap.lt_size e)) e
  show wpAny _ _ (assignInOrder [fun v => bindName X.env y v, fun v => bindName X.env x v] [u2, u1] >>= fun _ => pure Flow.next) _ _ _
  refine wpAny_bind (assignInOrder_cons (wpAny_bindName (store_ok I3 hN hj (.inl hy) rw' (fun s2 I4 => ?_) (.inr hy))))
  refine assignInOrder_cons (wpAny_bindName (store_ok I4 hN hi (.inl hx) rv (fun s3 I5 => assignInOrder_nil (wpAny_pure ?_)) (.inr hx)))
  rw [List.set_comm _ _ (Ne.symm hij)] at I5
  exact ⟨_, H1, I5, q1⟩
end
section
variable {X : Cx} {pos : Pos}
def tWhile (c : TT) (tb : TS) : TS := fun D σ H => ∃ W : Nat → St → Hp → Prop, (∃ m, W m σ H) ∧ ∀ m σ H, W m σ H →
  c σ H fun b H1 => if b = true then ∃ N : St → Hp → Prop, (∀ σ' H', N σ' H' → ∃ m', m' < m ∧ W m' σ' H') ∧ tb { D with nx := N, ct := N, bk := D.nx } σ H1 else D.nx σ H1
theorem ps_while {c : Expr} {body : List Stmt} {tc : TT} {tb : TS} (hp : PassesOwn (model X.prog X.w) X.A X.env X.xe) (hc : PT X c tc) (hb : PSs X body tb) : PS X (.While c body [] pos) (tWhile tc tb) := by
  intro pins s σ H D I h
  obtain ⟨W, ⟨m0, w0⟩, turn⟩ := h
  refine wpAny_While (codeAny_whileLoop (fun n s' => ∃ σ' H', Inv X pins σ' H' s' ∧ W n σ' H') ?_ m0 ⟨σ, H, I, w0⟩)
  rintro n s1 ⟨σ1, H1, I1, w1⟩
  refine wpAny_passesOwn hp (thn (hc pins s1 σ1 H1 _ I1 (turn n σ1 H1 w1)) fun b s2 ⟨H2, I2, q2⟩ => ?_)
  cases b with
  | true =>
    obtain ⟨N, hN, q2⟩ := q2
    rw [if_pos rfl]
    refine wpAny_passesOwn hp (thn (hb pins s2 σ1 H2 _ I2 q2) fun f s3 q3 => ?_)
    cases f with
    | next =>
      obtain ⟨σ3, H3, I3, n3⟩ := q3
      obtain ⟨m', hm, w3⟩ := hN σ3 H3 n3
      exact ⟨m', hm, σ3, H3, I3, w3⟩
    | cont =>
      obtain ⟨σ3, H3, I3, n3⟩ := q3
      obtain ⟨m', hm, w3⟩ := hN σ3 H3 n3
      exact ⟨m', hm, σ3, H3, I3, w3⟩
    | brk => exact q3
    | ret v => exact q3
  | false =>
    rw [if_neg Bool.false_ne_true]
    exact wpAny_execs_nil ⟨σ1, H2, I2, q2⟩
end
structure It where
  go : Nat → Hp → Prop
  yld : Nat → Hp → V → Hp → Prop
  stop : Nat → Hp → Prop
def FpOk (X : Cx) (pins : List (Addr × Obj)) (H : Hp) (b : Addr) : Prop :=
  H b = none ∧ b ≠ X.env.locals ∧ b ∉ X.fs ∧ (b ∈ X.ex ∨ X.s₀.heap.objs.size ≤ b) ∧ (∀ x c, X.env.cells.lookup x = some c → c ≠ b) ∧ ∀ p ∈ X.pn ++ pins, p.1 ≠ b
theorem Inv.fpOk {X : Cx} {pins : List (Addr × Obj)} {σ : St} {H H' : Hp} {s : Shared} {b : Addr} (I : Inv X pins σ H s) (hb : s.heap.objs.size ≤ b) (hn : H' b = none) : FpOk X pins H' b := by
  refine ⟨hn, Nat.ne_of_gt (Nat.lt_of_lt_of_le I.lt hb), I.nofs hb, .inr (Nat.le_trans I.sz hb), fun x c e z => ?_, fun p hp z => ?_⟩
  · obtain ⟨v, q⟩ := I.cell x c e
    exact absurd (Nat.lt_of_lt_of_le q.lt (by rw [z]; exact hb)) (Nat.lt_irrefl _)
  · exact absurd (Nat.lt_of_lt_of_le (Heap.lt_size (I.pin p hp).1) (by rw [z]; exact hb)) (Nat.lt_irrefl _)
structure Turn (P : Program) (w : World) (K : PySem.W.Frag) (tg : Expr) (J : It) (fp : List Addr) (it : Addr) (tn : Nat → Heap → Prop) : Prop where
  mem : it ∈ fp
  obj : ∀ i h, tn i h → ∀ b ∈ fp, ∃ o, h.get? b = some o ∧ ∀ v, o.data ≠ .cell v
  keep : ∀ i h h', tn i h → (∀ b ∈ fp, ∀ o, h.get? b = some o → h'.get? b = some o) → tn i h'
  item : ∀ (X : Cx), X.prog = P → X.w = w → X.K = K → X.calm = true → ∀ (i : Nat) (pins : List (Addr × Obj)) (s : Shared) (σ : St) (H : Hp) (E : Value → Shared → Prop), Inv X pins σ H s → (∀ b ∈ fp, FpOk X pins H b) → tn i s.heap → J.go i H →
    wpAny (model P w) X.A (pyNext (.ref it)) (fun r s1 => ∃ u, r = some u ∧
      wpAny (model P w) X.A (letOwnedTupleGo tg (.ref it) u) (fun _ s2 => ∃ x H', Inv X pins σ H' s2 ∧ RelV x u ∧ J.yld i H x H' ∧ tn (i + 1) s2.heap ∧ ∀ b ∈ fp, H' b = none) E s1) E s
  done : ∀ (X : Cx), X.prog = P → X.w = w → X.K = K → X.calm = true → ∀ (i : Nat) (pins : List (Addr × Obj)) (s : Shared) (σ : St) (H : Hp) (E : Value → Shared → Prop), Inv X pins σ H s → (∀ b ∈ fp, FpOk X pins H b) → tn i s.heap → J.stop i H →
    wpAny (model P w) X.A (pyNext (.ref it)) (fun r s1 => r = none ∧ Inv X pins σ H s1) E s
  self : ∀ (A : Around) (i : Nat) (s : Shared) (Q : Value → Shared → Prop) (E : Value → Shared → Prop), tn i s.heap → Q (.ref it) s → wpAny (model P w) A (pyIter (.ref it)) Q E s
abbrev TI := St → Hp → (It → Hp → Prop) → Prop
def PIE (X : Cx) (pins : List (Addr × Obj)) (σ : St) (tg : Expr) (R : It → Hp → Prop) (itv : Value) (s2 : Shared) : Prop :=
  ∃ (it : Addr) (fp : List Addr) (tn : Nat → Heap → Prop) (J : It) (H' : Hp), itv = .ref it ∧ Inv X pins σ H' s2 ∧ Turn X.prog X.w X.K tg J fp it tn ∧ tn 0 s2.heap ∧ (∀ b ∈ fp, FpOk X pins H' b) ∧ R J H'
def PI (X : Cx) (tg iter : Expr) (wi : TI) : Prop :=
  ∀ (pins : List (Addr × Obj)) (s : Shared) (σ : St) (H : Hp) (R : It → Hp → Prop), Inv X pins σ H s → wi σ H R →
    wpAny (model X.prog X.w) X.A (eval iter X.env) (fun v s1 => wpAny (model X.prog X.w) X.A (pyIter v) (PIE X pins σ tg R) X.xe s1) X.xe s
theorem go_of {M : Model} {A : Around} {E : Value → Shared → Prop} {s : Shared} {tg : Expr} {it : Addr} {u : Value} {o : Obj} {n : String} {vs : Array Value} {Q : Unit → Shared → Prop} (ho : s.heap.get? it = some o) (hc : o.cls = .type n) (hd : o.data = .fields vs)
    (hn : ["enumerate", "zip", "dict_itemiterator", "dict_reverseitemiterator", "odict_iterator", "itertools.zip_longest", "itertools.pairwise"].contains n = false) (hQ : Q () s) : wpAny M A (letOwnedTupleGo tg (.ref it) u) Q E s := by
  unfold letOwnedTupleGo
  cases tg <;> first
    | exact wpAny_pure hQ
    | (cases u <;> first
        | exact wpAny_pure hQ
        | (refine wpAny_bind (wpAny_load ho ?_)
           rw [hc, hd]
           show wpAny M A (if (["enumerate", "zip", "dict_itemiterator", "dict_reverseitemiterator", "odict_iterator", "itertools.zip_longest", "itertools.pairwise"].contains n && vs[0]? == some (rawInt _)) = true then _ else _) Q E s
           rw [if_neg (by intro h; rw [hn, Bool.false_and] at h; cases h)]
           exact wpAny_pure hQ))
def Itl (K : PySem.W.Frag) (a : Addr) : It :=
  ⟨fun i H => ∃ xs x, SqL K H a xs ∧ xs[i]? = some x, fun i H x H' => H' = H ∧ ∀ xs, SqL K H a xs → xs[i]? = some x, fun i H => ∃ xs, SqL K H a xs ∧ xs.length ≤ i⟩
def Itt (K : PySem.W.Frag) (a : Addr) : It :=
  ⟨fun i H => ∃ xs x, SqT K H a xs ∧ xs[i]? = some x, fun i H x H' => H' = H ∧ ∀ xs, SqT K H a xs → xs[i]? = some x, fun i H => ∃ xs, SqT K H a xs ∧ xs.length ≤ i⟩
def Itr (lo : Int) (n : Nat) : It := ⟨fun i _ => i < n, fun i H x H' => H' = H ∧ x = .int (lo + i), fun i _ => n ≤ i⟩
theorem turn_list {P : Program} {w : World} {K : PySem.W.Frag} {tg : Expr} (a it : Addr) : Turn P w K tg (Itl K a) [it] it (fun i h => h.IsListIter it a i) where
  mem := by simp
  obj := fun i h st b hb => by
    have e : b = it := by simpa using hb
    subst e
    obtain ⟨o, e, c, d⟩ := st
    exact ⟨o, e, fun v z => by rw [d] at z; cases z⟩
  keep := fun i h h' st k => st.at fun o e => k it (by simp) o e
  item := by
    intro X hP hw hK hc i pins s σ H E I hf st hg
    subst hP hw hK
    obtain ⟨xs, x, hq, hx⟩ := hg
    obtain ⟨its, rv, p, hz⟩ := I.list hq
    obtain ⟨u, hu, ru⟩ := rv.get hx
    obtain ⟨f0, f1, f2, f3, f4, f5⟩ := hf it (by simp)
    refine wpAny_pyNext_list_item st p.isList (x := u) (by simpa using hu) fun h' st' sb => ?_
    have I1 : Inv X pins σ H { s with heap := h' } := I.turned (t' := s.toks) (fun b o hb e => (sb.2 b hb).trans e) f0 f1 f3 f4 f5
    obtain ⟨o, e, c, d⟩ := id st'
    exact ⟨u, rfl, go_of (s := { s with heap := h' }) e c d (by decide) ⟨x, H, I1, ru, ⟨rfl, fun ys hy => by rw [I.list_inj hy hq]; exact hx⟩, st', fun b hb => (hf b hb).1⟩⟩
  done := by
    intro X hP hw hK hc i pins s σ H E I hf st hg
    subst hP hw hK
    obtain ⟨xs, hq, hx⟩ := hg
    obtain ⟨its, rv, p, hz⟩ := I.list hq
    obtain ⟨f0, f1, f2, f3, f4, f5⟩ := hf it (by simp)
    have hl := rv.length
    exact wpAny_pyNext_list_end (I.ok.hd hc) st p.isList (by simp; omega) fun h' eb => ⟨rfl, I.turned (t' := s.toks) (fun b o hb e => eb b o hb e) f0 f1 f3 f4 f5⟩
  self := fun _ _ _ _ _ st h => wpAny_pyIter_listiter st h
theorem turn_tuple {P : Program} {w : World} {K : PySem.W.Frag} {tg : Expr} (a it : Addr) : Turn P w K tg (Itt K a) [it] it (fun i h => h.IsTupleIter it a i) where
  mem := by simp
  obj := fun i h st b hb => by
    have e : b = it := by simpa using hb
    subst e
    obtain ⟨o, e, c, d⟩ := st
    exact ⟨o, e, fun v z => by rw [d] at z; cases z⟩
  keep := fun i h h' st k => st.at fun o e => k it (by simp) o e
  item := by
    intro X hP hw hK hc i pins s σ H E I hf st hg
    subst hP hw hK
    obtain ⟨xs, x, hq, hx⟩ := hg
    obtain ⟨its, rv, p, hz⟩ := I.tuple hq
    obtain ⟨u, hu, ru⟩ := rv.get hx
    obtain ⟨f0, f1, f2, f3, f4, f5⟩ := hf it (by simp)
    refine wpAny_pyNext_tuple_item st (show s.heap.IsTuple a its.toArray from p) (x := u) (by simpa using hu) fun h' st' sb => ?_
    have I1 : Inv X pins σ H { s with heap := h' } := I.turned (t' := s.toks) (fun b o hb e => (sb.2 b hb).trans e) f0 f1 f3 f4 f5
    obtain ⟨o, e, c, d⟩ := id st'
    exact ⟨u, rfl, go_of (s := { s with heap := h' }) e c d (by decide) ⟨x, H, I1, ru, ⟨rfl, fun ys hy => by rw [I.tuple_inj hy hq]; exact hx⟩, st', fun b hb => (hf b hb).1⟩⟩
  done := by
    intro X hP hw hK hc i pins s σ H E I hf st hg
    subst hP hw hK
    obtain ⟨xs, hq, hx⟩ := hg
    obtain ⟨its, rv, p, hz⟩ := I.tuple hq
    obtain ⟨f0, f1, f2, f3, f4, f5⟩ := hf it (by simp)
    have hl := rv.length
    exact wpAny_pyNext_tuple_end (I.ok.hd hc) st (show s.heap.IsTuple a its.toArray from p) (by simp; omega) fun h' eb => ⟨rfl, I.turned (t' := s.toks) (fun b o hb e => eb b o hb e) f0 f1 f3 f4 f5⟩
  self := fun _ _ _ _ _ st h => wpAny_pyIter_tupleiter st h
theorem turn_range {P : Program} {w : World} {K : PySem.W.Frag} {tg : Expr} (it : Addr) (lo : Int) (n : Nat) : Turn P w K tg (Itr lo n) [it] it (fun i h => IsRangeIter h it (lo + (i : Nat) * 1) ((n : Int) - (i : Nat)) 1) where
  mem := by simp
  obj := fun i h st b hb => by
    have e : b = it := by simpa using hb
    subst e
    exact ⟨_, st, fun v z => by
      have z' : Data.fields _ = Data.cell v := z
      cases z'⟩
  keep := fun i h h' st k => k it (by simp) _ st
  item := by
    intro X hP hw hK hc i pins s σ H E I hf st hg
    subst hP hw hK
    obtain ⟨f0, f1, f2, f3, f4, f5⟩ := hf it (by simp)
    have W := Walks.range (prog := X.prog) (w := X.w) (I.ok.hd hc) it lo 1 n
    refine W.item i s _ _ hg st fun v h' tk hv st' kk => ?_
    obtain ⟨t, rfl⟩ := hv
    have I1 : Inv X pins σ H { s with heap := h', toks := tk } := I.turned (fun b o hb e => kk b o (by simpa using hb) e) f0 f1 f3 f4 f5
    refine ⟨_, rfl, go_of (s := { s with heap := h', toks := tk }) (n := "range_iterator") st' rfl rfl (by decide) ⟨.int (lo + i), H, I1, ⟨t, ?_⟩, ⟨rfl, rfl⟩, st', fun b hb => (hf b hb).1⟩⟩
    rw [Int.mul_one]
  done := by
    intro X hP hw hK hc i pins s σ H E I hf st hg
    subst hP hw hK
    obtain ⟨f0, f1, f2, f3, f4, f5⟩ := hf it (by simp)
    exact wpAny_pyNext_range_end (I.ok.hd hc) st (by have : n ≤ i := hg; omega) fun h' eb => ⟨rfl, I.turned (t' := s.toks) (fun b o hb e => eb b o hb e) f0 f1 f3 f4 f5⟩
  self := fun _ _ _ _ _ st h => wpAny_pyIter_rangeiter st h
end L2
namespace L2
open PySem PySem.Spec PyProof.Rows
section
variable {X : Cx} {tg : Expr}
theorem range_it {pins : List (Addr × Obj)} {σ : St} {H : Hp} {s : Shared} {R : It → Hp → Prop} {E : Value → Shared → Prop} {lo hi : Int} {t u v : Tok} {tk : Nat} (I : Inv X pins σ H s) (h1 : -(2 ^ 62) ≤ lo) (h2 : lo < 2 ^ 62) (h3 : -(2 ^ 62) ≤ hi) (h4 : hi < 2 ^ 62)
    (q : R (Itr lo (hi - lo).toNat) H) : wpAny (model X.prog X.w) X.A (pyIter (.ref s.heap.objs.size)) (PIE X pins σ tg R) E { s with heap := s.heap.push { cls := .type "range", data := .fields #[.int lo t, .int hi u, .int 1 v] }, toks := tk } := by
  refine wpAny_pyIter_range (IsRange.new ..) (small_one h1 h2 h3 h4) ?_
  have I1 : Inv X pins σ H { s with heap := s.heap.push { cls := .type "range", data := .fields #[.int lo t, .int hi u, .int 1 v] }, toks := tk } := I.kept fun b o e => Heap.get?_push_of_some _ e
  refine ⟨(s.heap.push { cls := .type "range", data := .fields #[.int lo t, .int hi u, .int 1 v] }).objs.size, [(s.heap.push { cls := .type "range", data := .fields #[.int lo t, .int hi u, .int 1 v] }).objs.size], _, _, H, rfl,
    I1.kept (t' := tk) fun b o e => Heap.get?_push_of_some _ e, turn_range _ lo (hi - lo).toNat, ?_, fun b hb => ?_, q⟩
  · have e1 : lo + ((0 : Nat) : Int) * 1 = lo := by simp
    have e2 : (((hi - lo).toNat : Nat) : Int) - ((0 : Nat) : Int) = Builtin.Range.rangeSize lo hi 1 := by rw [rangeSize_one]; split <;> omega
    show IsRangeIter _ _ (lo + ((0 : Nat) : Int) * 1) ((((hi - lo).toNat : Nat) : Int) - ((0 : Nat) : Int)) 1
    rw [e1, e2]
    exact Heap.get?_push_size _ rfl
  · have e : b = (s.heap.push { cls := .type "range", data := .fields #[.int lo t, .int hi u, .int 1 v] }).objs.size := by simpa using hb
    subst e
    exact I1.fpOk (Nat.le_refl _) (I1.hok.fresh (Nat.le_refl _))
abbrev iRng1 (ta : TA) : TI := fun σ H R => ta σ H fun vs H1 => ∃ j : Int, vs = [.int j] ∧ -(2 ^ 62) ≤ j ∧ j < 2 ^ 62 ∧ R (Itr 0 j.toNat) H1
theorem pi_range1 {a : Expr} {ta : TA} {p pos : Pos} (hg : Gl X "range") (hm : X.mg "range" = none) (ha : PA X [a] ta) (hs : starEach [a] X.env = [(false, eval a X.env)] := by rfl) : PI X tg (.Call (.Name "range" p) [a] [] pos) (iRng1 ta) := by
  intro pins s σ H R I h
  refine Call_ (ld_blt I hg hm boot_range (PyProof.Rows.callWith_type1 (thn (ha pos pins s σ H _ I h) fun us s1 ⟨vs, H1, I1, r1, q1⟩ => ?_) hs rfl))
  obtain ⟨j, e, q1, q2, q⟩ := q1
  subst e
  cases r1 with
  | cons r rr =>
    cases rr
    obtain ⟨t, rfl⟩ := r
    exact call_range_1 (range_it I1 (by omega) (by omega) q1 q2 (by simpa using q))
abbrev tFor (wi : TI) (g : TG) (tb : TS) : TS := fun D σ H => wi σ H fun J H1 => ∃ W : Nat → Nat → St → Hp → Prop, (∃ m, W 0 m σ H1) ∧ ∀ i m σ H, W i m σ H →
  (J.stop i H ∧ D.nx σ H) ∨ (J.go i H ∧ ∃ N : St → Hp → Prop, (∀ σ' H', N σ' H' → ∃ m', m' < m ∧ W (i + 1) m' σ' H') ∧ ∀ x H', J.yld i H x H' → g x σ H' fun σ2 H2 => tb { D with nx := N, ct := N, bk := D.nx } σ2 H2)
def pinsAt (fp : List Addr) (h : Heap) : List (Addr × Obj) := fp.filterMap fun b => (h.get? b).map fun o => (b, o)
theorem mem_pinsAt {fp : List Addr} {h : Heap} {b : Addr} {o : Obj} (hb : b ∈ fp) (e : h.get? b = some o) : (b, o) ∈ pinsAt fp h := List.mem_filterMap.mpr ⟨b, hb, by rw [e]; rfl⟩
theorem of_pinsAt {fp : List Addr} {h : Heap} {p : Addr × Obj} (hp : p ∈ pinsAt fp h) : p.1 ∈ fp ∧ h.get? p.1 = some p.2 := by
  obtain ⟨b, hb, e⟩ := List.mem_filterMap.mp hp
  cases q : h.get? b with
  | none => rw [q] at e; cases e
  | some o =>
    rw [q] at e
    have e' : (b, o) = p := Option.some.inj e
    subst e'
    exact ⟨hb, q⟩
theorem Inv.pinned {pins : List (Addr × Obj)} {σ : St} {H : Hp} {s : Shared} {fp : List Addr} (I : Inv X pins σ H s) (hf : ∀ b ∈ fp, FpOk X pins H b) (ho : ∀ b ∈ fp, ∃ o, s.heap.get? b = some o ∧ ∀ v, o.data ≠ .cell v) : Inv X (pins ++ pinsAt fp s.heap) σ H s :=
  I.pins_of fun p hp => (List.mem_append.mp hp).elim (fun z => I.pin p (List.mem_append_right _ z)) fun z => by
    obtain ⟨hb, e⟩ := of_pinsAt z
    obtain ⟨f0, f1, f2, _⟩ := hf p.1 hb
    obtain ⟨o, e', d⟩ := ho p.1 hb
    rw [e] at e'; cases e'
    exact ⟨e, f0, f1, f2, d⟩
theorem Inv.unpinned {pins pl : List (Addr × Obj)} {σ : St} {H : Hp} {s : Shared} (I : Inv X (pins ++ pl) σ H s) : Inv X pins σ H s := I.pins_of fun p hp => I.pin p (List.mem_append_right _ (List.mem_append_left _ hp))
theorem ps_for {iter : Expr} {body : List Stmt} {wi : TI} {g : TG} {tb : TS} {pos : Pos} (hp : PassesOwn (model X.prog X.w) X.A X.env X.xe) (hc : X.calm = true) (hi : PI X tg iter wi) (hg : PG X tg g) (hb : PSs X body tb)
    (hs : ∀ x, foldedSetIterable iter X.env x = pure x := by intro _; rfl) : PS X (.For tg iter body [] pos) (tFor wi g tb) := by
  intro pins s σ H D I h
  refine wpAny_For (thn (hi pins s σ H _ I h) fun v s1 h1 => thn h1 fun itv s2 h2 => ?_) hs
  obtain ⟨it, fp, tn, J, H2, e, I2, T, st2, f2, W, ⟨m0, w0⟩, turn⟩ := h2
  subst e
  -- what stays true of the iterator's objects through the loop
  have stat : ∀ {H' : Hp}, (∀ b ∈ fp, H' b = none) → ∀ b ∈ fp, FpOk X pins H' b := fun hn b hb => ⟨hn b hb, (f2 b hb).2⟩
  refine codeAny_forLoop_any (fun n s' => ∃ i σ' H', Inv X pins σ' H' s' ∧ tn i s'.heap ∧ (∀ b ∈ fp, H' b = none) ∧ W i n σ' H') ?_ m0 ⟨0, σ, H2, I2, st2, fun b hb => (f2 b hb).1, w0⟩
  rintro n s3 ⟨i, σ3, H3, I3, st3, fr3, w3⟩
  rcases turn i n σ3 H3 w3 with ⟨stop, qn⟩ | ⟨go, N, hN, step⟩
  · refine wpAny_passesOwn hp (thn (T.done X rfl rfl rfl hc i pins s3 σ3 H3 X.xe I3 (stat fr3) st3 stop) fun r s4 ⟨hr, I4⟩ => ?_)
    subst hr
    exact wpAny_execs_nil ⟨σ3, H3, I4, qn⟩
  · refine wpAny_passesOwn hp (thn (T.item X rfl rfl rfl hc i pins s3 σ3 H3 X.xe I3 (stat fr3) st3 go) fun r s4 ⟨u, hr, h4⟩ => ?_)
    subst hr
    refine wpAny_passesOwn hp (thn h4 fun _ s5 ⟨x, H5, I5, r5, y5, st5, fr5⟩ => ?_)
    have I5' := I5.pinned (stat fr5) (T.obj _ _ st5)
    refine wpAny_passesOwn hp (thn (hg _ s5 σ3 H5 x u _ I5' r5 (step x H5 y5)) fun _ s6 ⟨σ6, H6, I6, q6⟩ => ?_)
    refine wpAny_passesOwn hp (thn (hb _ s6 σ6 H6 _ I6 q6) fun f s7 q7 => ?_)
    have again : ∀ {σ7 : St} {H7 : Hp}, Inv X (pins ++ pinsAt fp s5.heap) σ7 H7 s7 → N σ7 H7 → ∃ m, m < n ∧ ∃ i σ' H', Inv X pins σ' H' s7 ∧ tn i s7.heap ∧ (∀ b ∈ fp, H' b = none) ∧ W i m σ' H' := fun {σ7 H7} I7 n7 => by
      obtain ⟨m', hm, w7⟩ := hN σ7 H7 n7
      refine ⟨m', hm, i + 1, σ7, H7, I7.unpinned, T.keep _ _ _ st5 fun b hb o e => (I7.pin (b, o) (List.mem_append_right _ (List.mem_append_right _ (mem_pinsAt hb e)))).1, fun b hb => ?_, w7⟩
      obtain ⟨o, e, d⟩ := T.obj _ _ st5 b hb
      exact (I7.pin (b, o) (List.mem_append_right _ (List.mem_append_right _ (mem_pinsAt hb e)))).2.1
    cases f with
    | next => obtain ⟨σ7, H7, I7, n7⟩ := q7; exact again I7 n7
    | cont => obtain ⟨σ7, H7, I7, n7⟩ := q7; exact again I7 n7
    | brk => obtain ⟨σ7, H7, I7, q7⟩ := q7; exact ⟨σ7, H7, I7.unpinned, q7⟩
    | ret v => obtain ⟨x7, σ7, H7, I7, r7, q7⟩ := q7; exact ⟨x7, σ7, H7, I7.unpinned, r7, q7⟩
end
end L2
namespace L2
open PySem PySem.Spec PyProof.Rows
abbrev R2 := V → V → Hp → VK → Prop
def OpR (X : Cx) (f : Value → Value → Sem Value) (r : R2) : Prop :=
  ∀ (pins : List (Addr × Obj)) (s : Shared) (σ : St) (H : Hp) (x y : V) (v u : Value) (Q : VK), Inv X pins σ H s → RelV x v → RelV y u → r x y H Q →
    wpAny (model X.prog X.w) X.A (f v u) (EP X pins σ Q) X.xe s
def UnR (X : Cx) (f : Value → Sem Value) (r : V → Hp → VK → Prop) : Prop :=
  ∀ (pins : List (Addr × Obj)) (s : Shared) (σ : St) (H : Hp) (x : V) (v : Value) (Q : VK), Inv X pins σ H s → RelV x v → r x H Q →
    wpAny (model X.prog X.w) X.A (f v) (EP X pins σ Q) X.xe s
def CallR (X : Cx) (f : Value) (r : List V → Hp → VK → Prop) : Prop :=
  ∀ (pins : List (Addr × Obj)) (s : Shared) (σ : St) (H : Hp) (xs : List V) (us : List Value) (Q : VK), Inv X pins σ H s → Vals xs us → r xs H Q →
    wpAny (model X.prog X.w) X.A (call f us) (EP X pins σ Q) X.xe s
def TruR (X : Cx) (r : V → Hp → (Bool → Hp → Prop) → Prop) : Prop :=
  ∀ (pins : List (Addr × Obj)) (s : Shared) (σ : St) (H : Hp) (x : V) (v : Value) (Q : Bool → Hp → Prop), Inv X pins σ H s → RelV x v → r x H Q →
    wpAny (model X.prog X.w) X.A (truthy v) (TP X pins σ Q) X.xe s
abbrev tOp (r : R2) (ta tb : TE) : TE := fun σ H Q => ta σ H fun x H1 => tb σ H1 fun y H2 => r x y H2 Q
abbrev tUn (r : V → Hp → VK → Prop) (ta : TE) : TE := fun σ H Q => ta σ H fun x H1 => r x H1 Q
def rI (C : Int → Int → Prop) (g : Int → Int → V) : R2 := fun x y H Q => ∃ i j, x = .int i ∧ y = .int j ∧ C i j ∧ Q (g i j) H
def rI0 (g : Int → Int → V) : R2 := fun x y H Q => ∃ i j, x = .int i ∧ y = .int j ∧ Q (g i j) H
def rU (g : Int → V) : V → Hp → VK → Prop := fun x H Q => ∃ i, x = .int i ∧ Q (g i) H
section
variable {X : Cx} {a b c : Expr} {ta tb tc : TE} {pos : Pos}
theorem binT (ha : PE X a ta) (hb : PE X b tb) {pins : List (Addr × Obj)} {s : Shared} {σ : St} {H : Hp} {R : V → V → Hp → Prop} (I : Inv X pins σ H s)
    (h : ta σ H fun x H1 => tb σ H1 fun y H2 => R x y H2) {Q : Value → Shared → Prop} {f : Value → Value → Sem Value}
    (hf : ∀ v u s2 x y H2, Inv X pins σ H2 s2 → RelV x v → RelV y u → R x y H2 → wpAny (model X.prog X.w) X.A (f v u) Q X.xe s2) :
    wpAny (model X.prog X.w) X.A (eval a X.env) (fun v s₁ => wpAny (model X.prog X.w) X.A (eval b X.env) (fun u s₂ => wpAny (model X.prog X.w) X.A (f v u) Q X.xe s₂) X.xe s₁) X.xe s := by
  refine thn (ha pins s σ H _ I h) fun v s1 ⟨x, H1, I1, r1, q1⟩ => ?_
  refine thn (hb pins s1 σ H1 _ I1 q1) fun u s2 ⟨y, H2, I2, r2, q2⟩ => ?_
  exact hf v u s2 x y H2 I2 r1 r2 q2
theorem pe_op {op : Operator} {r : R2} (ho : OpR X (binaryOp op) r) (ha : PE X a ta) (hb : PE X b tb) : PE X (.BinOp a op b pos) (tOp r ta tb) := by
  intro pins s σ H Q I h
  exact wpAny_BinOp (binT ha hb I h fun v u s2 x y H2 I2 rx ry q => ho pins s2 σ H2 x y v u Q I2 rx ry q)
theorem pe_un {op : UnaryOp} {r : V → Hp → VK → Prop} (ho : UnR X (unaryOp op) r) (ha : PE X a ta) : PE X (.UnaryOp op a pos) (tUn r ta) := by
  intro pins s σ H Q I h
  exact UnaryOp_ (thn (ha pins s σ H _ I h) fun v s1 ⟨x, H1, I1, r1, q1⟩ => ho pins s1 σ H1 x v Q I1 r1 q1)
theorem opI {f : Value → Value → Sem Value} {C : Int → Int → Prop} {g : Int → Int → Int}
    (rule : ∀ (i j : Int) (t u : Tok) (s : Shared) (Q : Value → Shared → Prop) (E : Value → Shared → Prop), C i j → Q (.int (g i j) s.toks) { s with toks := s.toks + 1 } → wpAny (model X.prog X.w) X.A (f (.int i t) (.int j u)) Q E s) :
    OpR X f (rI C fun i j => .int (g i j)) := by
  intro pins s σ H x y v u Q I rx ry h
  obtain ⟨i, j, rfl, rfl, hc, q⟩ := h
  obtain ⟨t, rfl⟩ := rx
  obtain ⟨t', rfl⟩ := ry
  exact rule i j t t' s _ _ hc ⟨.int (g i j), H, I.tok _, ⟨_, rfl⟩, q⟩
theorem opI0 {f : Value → Value → Sem Value} {g : Int → Int → Int}
    (rule : ∀ (i j : Int) (t u : Tok) (s : Shared) (Q : Value → Shared → Prop) (E : Value → Shared → Prop), Q (.int (g i j) s.toks) { s with toks := s.toks + 1 } → wpAny (model X.prog X.w) X.A (f (.int i t) (.int j u)) Q E s) :
    OpR X f (rI0 fun i j => .int (g i j)) := by
  intro pins s σ H x y v u Q I rx ry h
  obtain ⟨i, j, rfl, rfl, q⟩ := h
  obtain ⟨t, rfl⟩ := rx
  obtain ⟨t', rfl⟩ := ry
  exact rule i j t t' s _ _ ⟨.int (g i j), H, I.tok _, ⟨_, rfl⟩, q⟩
theorem opB0 {f : Value → Value → Sem Value} {g : Int → Int → Bool}
    (rule : ∀ (i j : Int) (t u : Tok) (s : Shared) (Q : Value → Shared → Prop) (E : Value → Shared → Prop), Q (.bool (g i j)) s → wpAny (model X.prog X.w) X.A (f (.int i t) (.int j u)) Q E s) :
    OpR X f (rI0 fun i j => .bl (g i j)) := by
  intro pins s σ H x y v u Q I rx ry h
  obtain ⟨i, j, rfl, rfl, q⟩ := h
  obtain ⟨t, rfl⟩ := rx
  obtain ⟨t', rfl⟩ := ry
  exact rule i j t t' s _ _ ⟨.bl (g i j), H, I, rfl, q⟩
def CDiv (i j : Int) : Prop := 0 < j ∧ j < 1073741824
def CPow (i j : Int) : Prop := 0 ≤ j ∧ j ≤ 1000000 ∧ i.natAbs < 2 ^ 64
def CMul (i j : Int) : Prop := (-(2 ^ 64) < i ∧ i < 2 ^ 64) ∨ (-(2 ^ 64) < j ∧ j < 2 ^ 64)
theorem CMul.ok {i j : Int} (h : CMul i j) : IntMulOk i j := by
  rcases h with ⟨h1, h2⟩ | ⟨h1, h2⟩
  · exact .of_left (intBits_le_64 h1 h2)
  · exact .of_right (intBits_le_64 h1 h2)
theorem op_add : OpR X (binaryOp .Add) (rI0 fun i j => .int (i + j)) := opI0 fun _ _ _ _ _ _ _ q => add_int q
theorem op_sub : OpR X (binaryOp .Sub) (rI0 fun i j => .int (i - j)) := opI0 fun _ _ _ _ _ _ _ q => sub_int q
theorem op_mul : OpR X (binaryOp .Mult) (rI CMul fun i j => .int (i * j)) := opI fun _ _ _ _ _ _ _ hc q => mul_int q hc.ok
theorem op_fdiv : OpR X (binaryOp .FloorDiv) (rI CDiv fun i j => .int (i / j)) := opI fun i j _ _ _ _ _ hc q => by
  have h1 : (0 : Int) < j := hc.1
  have h2 : j < 1073741824 := hc.2
  exact floordiv_int (by omega) (by rw [Int.fdiv_eq_ediv_of_nonneg i (by omega)]; exact q) (.inl (PyProof.noPylong_small (by omega)))
theorem op_mod : OpR X (binaryOp .Mod) (rI (fun _ j => 0 < j) fun i j => .int (i % j)) := opI fun i j _ _ _ _ _ hc q => by
  have h1 : (0 : Int) < j := hc
  exact mod_int' (by omega) (by rw [Int.fmod_eq_emod_of_nonneg i (by omega)]; exact q)
theorem op_pow : OpR X (binaryOp .Pow) (rI CPow fun i j => .int (i ^ j.toNat)) := opI fun _ _ _ _ _ _ _ hc q => pow_int_small hc.1 hc.2.1 hc.2.2 q
theorem unI {f : Value → Sem Value} {g : Int → Int}
    (rule : ∀ (i : Int) (t : Tok) (s : Shared) (Q : Value → Shared → Prop) (E : Value → Shared → Prop), Q (.int (g i) s.toks) { s with toks := s.toks + 1 } → wpAny (model X.prog X.w) X.A (f (.int i t)) Q E s) :
    UnR X f (rU fun i => .int (g i)) := by
  intro pins s σ H x v Q I rx h
  obtain ⟨i, rfl, q⟩ := h
  obtain ⟨t, rfl⟩ := rx
  exact rule i t s _ _ ⟨.int (g i), H, I.tok _, ⟨_, rfl⟩, q⟩
theorem un_neg : UnR X (unaryOp .USub) (rU fun i => .int (-i)) := unI fun _ _ _ _ _ q => neg_int q
end
def scal : V → V → Bool
  | .non, .non => true | .non, .int _ => true | .int _, .non => true | .non, .bl _ => true | .bl _, .non => true | .non, .str _ => true | .str _, .non => true
  | .int _, .int _ => true | .bl _, .bl _ => true | .str _, .str _ => true | .byt _, .byt _ => true
  | .int _, .str _ => true | .str _, .int _ => true | .bl _, .str _ => true | .str _, .bl _ => true
  | _, _ => false
def rEq : R2 := fun x y H Q => scal x y = true ∧ Q (.bl (decide (x = y))) H
def rNe : R2 := fun x y H Q => scal x y = true ∧ Q (.bl (!decide (x = y))) H
theorem dec_int {i j : Int} : decide (V.int i = V.int j) = (i == j) := by
  rw [Bool.eq_iff_iff]
  simp
theorem dec_bl {i j : Bool} : decide (V.bl i = V.bl j) = (i == j) := by
  rw [Bool.eq_iff_iff]
  simp
theorem dec_str {i j : Str} : decide (V.str i = V.str j) = (i == j) := by
  rw [Bool.eq_iff_iff]
  simp
theorem dec_byt {i j : Array UInt8} : decide (V.byt i = V.byt j) = (i.toList == j.toList) := by
  rw [Bool.eq_iff_iff]
  cases i
  cases j
  simp
section
variable {X : Cx} {a b c : Expr} {ta tb tc : TE} {pos : Pos}
theorem fin_bl {pins : List (Addr × Obj)} {σ : St} {H : Hp} {s : Shared} {Q : VK} {k k' : Bool} (I : Inv X pins σ H s) (q : Q (.bl k) H) (e : k = k') : EP X pins σ Q (.bool k') s := by
  subst e
  exact ⟨.bl k, H, I, rfl, q⟩
theorem op_eq : OpR X (compareOp .Eq) rEq := by
  intro pins s σ H x y v u Q I rx ry h
  obtain ⟨hs, q⟩ := h
  cases x with
  | non =>
    cases rx
    cases y with
    | non => cases ry; exact PySem.EqNone.eq_none_none (fin_bl I q (by simp))
    | bl j => cases ry; exact PySem.EqNone.eq_none_bool (fin_bl I q (by simp))
    | int j => obtain ⟨t', rfl⟩ := ry; exact PySem.EqNone.eq_none_int (fin_bl I q (by simp))
    | str j => obtain ⟨t', rfl⟩ := ry; exact PySem.EqNone.eq_none_str (fin_bl I q (by simp))
    | _ => exact absurd (show false = true from hs) Bool.false_ne_true
  | bl i =>
    cases rx
    cases y with
    | non => cases ry; exact PySem.EqNone.eq_bool_none (fin_bl I q (by simp))
    | bl j => cases ry; exact eq_bool (fin_bl I q dec_bl)
    | str j => obtain ⟨t', rfl⟩ := ry; exact PySem.EqMixed.eq_bool_str (fin_bl I q (by simp))
    | _ => exact absurd (show false = true from hs) Bool.false_ne_true
  | int i =>
    obtain ⟨t, rfl⟩ := rx
    cases y with
    | non => cases ry; exact PySem.EqNone.eq_int_none (fin_bl I q (by simp))
    | int j => obtain ⟨t', rfl⟩ := ry; exact eq_int (fin_bl I q dec_int)
    | str j => obtain ⟨t', rfl⟩ := ry; exact PySem.EqMixed.eq_int_str (fin_bl I q (by simp))
    | _ => exact absurd (show false = true from hs) Bool.false_ne_true
  | str i =>
    obtain ⟨t, rfl⟩ := rx
    cases y with
    | non => cases ry; exact PySem.EqNone.eq_str_none (fin_bl I q (by simp))
    | bl j => cases ry; exact PySem.EqMixed.eq_str_bool (fin_bl I q (by simp))
    | int j => obtain ⟨t', rfl⟩ := ry; exact PySem.EqMixed.eq_str_int (fin_bl I q (by simp))
    | str j => obtain ⟨t', rfl⟩ := ry; exact eq_str (fin_bl I q dec_str)
    | _ => exact absurd (show false = true from hs) Bool.false_ne_true
  | byt i =>
    obtain ⟨t, rfl⟩ := rx
    cases y with
    | byt j => obtain ⟨t', rfl⟩ := ry; exact PySem.W.eq_bytes (fin_bl I q dec_byt)
    | _ => exact absurd (show false = true from hs) Bool.false_ne_true
  | _ => cases y <;> exact absurd (show false = true from hs) Bool.false_ne_true
theorem op_ne : OpR X (compareOp .NotEq) rNe := by
  intro pins s σ H x y v u Q I rx ry h
  obtain ⟨hs, q⟩ := h
  cases x with
  | non =>
    cases rx
    cases y with
    | non => cases ry; exact PySem.EqNone.ne_none_none (fin_bl I q (by simp))
    | bl j => cases ry; exact PySem.EqNone.ne_none_bool (fin_bl I q (by simp))
    | int j => obtain ⟨t', rfl⟩ := ry; exact PySem.EqNone.ne_none_int (fin_bl I q (by simp))
    | str j => obtain ⟨t', rfl⟩ := ry; exact PySem.EqNone.ne_none_str (fin_bl I q (by simp))
    | _ => exact absurd (show false = true from hs) Bool.false_ne_true
  | bl i =>
    cases rx
    cases y with
    | non => cases ry; exact PySem.EqNone.ne_bool_none (fin_bl I q (by simp))
    | bl j => cases ry; exact ne_bool (fin_bl I q (congrArg not dec_bl))
    | str j => obtain ⟨t', rfl⟩ := ry; exact PySem.EqMixed.ne_bool_str (fin_bl I q (by simp))
    | _ => exact absurd (show false = true from hs) Bool.false_ne_true
  | int i =>
    obtain ⟨t, rfl⟩ := rx
    cases y with
    | non => cases ry; exact PySem.EqNone.ne_int_none (fin_bl I q (by simp))
    | int j => obtain ⟨t', rfl⟩ := ry; exact ne_int (fin_bl I q (congrArg not dec_int))
    | str j => obtain ⟨t', rfl⟩ := ry; exact PySem.EqMixed.ne_int_str (fin_bl I q (by simp))
    | _ => exact absurd (show false = true from hs) Bool.false_ne_true
  | str i =>
    obtain ⟨t, rfl⟩ := rx
    cases y with
    | non => cases ry; exact PySem.EqNone.ne_str_none (fin_bl I q (by simp))
    | bl j => cases ry; exact PySem.EqMixed.ne_str_bool (fin_bl I q (by simp))
    | int j => obtain ⟨t', rfl⟩ := ry; exact PySem.EqMixed.ne_str_int (fin_bl I q (by simp))
    | str j => obtain ⟨t', rfl⟩ := ry; exact ne_str (fin_bl I q (congrArg not dec_str))
    | _ => exact absurd (show false = true from hs) Bool.false_ne_true
  | byt i =>
    obtain ⟨t, rfl⟩ := rx
    cases y with
    | byt j => obtain ⟨t', rfl⟩ := ry; exact PySem.W.ne_bytes (fin_bl I q (congrArg not dec_byt))
    | _ => exact absurd (show false = true from hs) Bool.false_ne_true
  | _ => cases y <;> exact absurd (show false = true from hs) Bool.false_ne_true
theorem op_lt : OpR X (compareOp .Lt) (rI0 fun i j => .bl (decide (i < j))) := opB0 fun _ _ _ _ _ _ _ q => lt_int q
theorem op_gt : OpR X (compareOp .Gt) (rI0 fun i j => .bl (decide (j < i))) := opB0 fun _ _ _ _ _ _ _ q => gt_int q
theorem op_ge : OpR X (compareOp .GtE) (rI0 fun i j => .bl (decide (j ≤ i))) := opB0 fun _ _ _ _ _ _ _ q => ge_int q
theorem op_in_str : OpR X (compareOp .In) (fun x y H Q => ∃ i j, x = .str i ∧ y = .str j ∧ Q (.bl (!(Builtin.Str.occurrences j i 0 j.length 1).isEmpty)) H) := by
  intro pins s σ H x y v u Q I rx ry h
  obtain ⟨i, j, rfl, rfl, q⟩ := h
  obtain ⟨t, rfl⟩ := rx
  obtain ⟨t', rfl⟩ := ry
  exact in_str (fin_bl I q rfl)
theorem OpR.or {f : Value → Value → Sem Value} {r r' : R2} (h : OpR X f r) (h' : OpR X f r') : OpR X f (fun x y H Q => r x y H Q ∨ r' x y H Q) := by
  intro pins s σ H x y v u Q I rx ry q
  rcases q with q | q
  · exact h pins s σ H x y v u Q I rx ry q
  · exact h' pins s σ H x y v u Q I rx ry q
theorem nomark (b : Expr) {op : CmpOp} (h : op ≠ .In := by decide) (h2 : op ≠ .NotIn := by decide) : behindInMarks op b = false := by
  have e1 : (op == CmpOp.In) = false := by cases op <;> first | rfl | exact absurd rfl h
  have e2 : (op == CmpOp.NotIn) = false := by cases op <;> first | rfl | exact absurd rfl h2
  cases b <;> simp [behindInMarks, e1, e2]
theorem pe_cmpR {op : CmpOp} {r : R2} (ho : OpR X (compareOp op) r) (ha : PE X a ta) (hb : PE X b tb) (hm : behindInMarks op b = false) : PE X (.Compare a [op] [b] pos) (tOp r ta tb) := by
  intro pins s σ H Q I h
  exact wpAny_Compare1 (binT ha hb I h fun v u s2 x y H2 I2 rx ry q => ho pins s2 σ H2 x y v u Q I2 rx ry q) hm
abbrev tTest (t : TE) : TT := fun σ H Q => t σ H fun x H' => ∃ k, x = .bl k ∧ Q k H'
theorem pt_cmpR {op : CmpOp} {r : R2} (ho : OpR X (compareOp op) r) (ha : PE X a ta) (hb : PE X b tb) (hm : behindInMarks op b = false) : PT X (.Compare a [op] [b] pos) (tTest (tOp r ta tb)) := by
  intro pins s σ H Q I h
  refine wpAny_isTrue_Compare1 (thn (ha pins s σ H _ I h) fun v s1 ⟨x, H1, I1, r1, q1⟩ => thn (hb pins s1 σ H1 _ I1 q1) fun u s2 ⟨y, H2, I2, r2, q2⟩ =>
    thn (ho pins s2 σ H2 x y v u _ I2 r1 r2 q2) fun c s3 ⟨z, H3, I3, r3, k, e, q3⟩ => ?_) hm
  subst e
  cases r3
  exact wpAny_truthy_bool ⟨H3, I3, q3⟩
def TruV (K : PySem.W.Frag) (x : V) (H : Hp) (k : Bool) : Prop :=
  match x with
  | .non => k = false
  | .bl b => k = b
  | .int i => k = (i != 0)
  | .str y => y.length ≤ sizeLine ∧ k = ((y.length : Int) != 0)
  | .byt y => y.size ≤ sizeLine ∧ k = ((y.size : Int) != 0)
  | .ref p => (∃ xs, SqL K H p xs ∧ k = !xs.isEmpty) ∨ (∃ xs, SqT K H p xs ∧ k = !xs.isEmpty) ∨ ∃ kvs, H p = some (.dK kvs) ∧ k = !kvs.isEmpty
  | _ => False
theorem isEmpty_kv {κ : Type} {kvs : List (κ × V)} {vs : List (κ × Value)} (r : KV kvs vs) : (!vs.isEmpty) = !kvs.isEmpty := by
  cases r <;> rfl
theorem isEmpty_of {xs : List V} {its : List Value} (r : Vals xs its) : (!its.toArray.isEmpty) = !xs.isEmpty := by
  cases r <;> simp
theorem line63 : (sizeLine : Nat) < 2 ^ 63 := by rw [sizeLine_eq]; decide
theorem tru_ok : TruR X (fun x H Q => ∃ k, TruV X.K x H k ∧ Q k H) := by
  intro pins s σ H x v Q I rx h
  obtain ⟨k, e, q⟩ := h
  have hl := line63
  have hs : sizeLine = 16777216 := sizeLine_eq
  cases x with
  | non =>
    cases rx
    have e' : k = false := e
    subst e'
    exact truthy_none ⟨H, I, q⟩
  | bl b =>
    cases rx
    have e' : k = b := e
    subst e'
    exact wpAny_truthy_bool ⟨H, I, q⟩
  | int i =>
    obtain ⟨t, rfl⟩ := rx
    have e' : k = (i != 0) := e
    subst e'
    exact PySem.P.truthy_int ⟨H, I, q⟩
  | str y =>
    obtain ⟨t, rfl⟩ := rx
    obtain ⟨hy, e'⟩ : y.length ≤ sizeLine ∧ k = ((y.length : Int) != 0) := e
    subst e'
    exact PySem.P.truthy_str (by omega) ⟨H, I.tok _, q⟩
  | byt y =>
    obtain ⟨t, rfl⟩ := rx
    obtain ⟨hy, e'⟩ : y.size ≤ sizeLine ∧ k = ((y.size : Int) != 0) := e
    subst e'
    exact PySem.W.truthy_bytes (by omega) ⟨H, I.tok _, q⟩
  | ref p =>
    cases rx
    have e' : (∃ xs, SqL X.K H p xs ∧ k = !xs.isEmpty) ∨ (∃ xs, SqT X.K H p xs ∧ k = !xs.isEmpty) ∨ ∃ kvs, H p = some (.dK kvs) ∧ k = !kvs.isEmpty := e
    rcases e' with ⟨xs, hx, e'⟩ | ⟨xs, hx, e'⟩ | ⟨kvs, hx, e'⟩
    · subst e'
      obtain ⟨its, r, pl, hz⟩ := I.list hx
      have hlen := r.length
      exact wpAny_truthy_list pl.isList (by simp only [List.size_toArray]; omega) ⟨H, I.tok _, by rw [isEmpty_of r]; exact q⟩
    · subst e'
      obtain ⟨its, r, pl, hz⟩ := I.tuple hx
      have hlen := r.length
      exact truthy_tuple pl (by simp only [List.size_toArray]; omega) ⟨H, I.tok _, by rw [isEmpty_of r]; exact q⟩
    · subst e'
      obtain ⟨hz, hS, vs, r, m⟩ : kvs.length ≤ sizeLine ∧ (p == sysModules) = false ∧ ∃ vs, KV kvs vs ∧ s.heap.DictOf (mixKind X.prog X.w) p vs := I.hok p _ hx
      have hlen : kvs.length = vs.length := Paired.length r
      exact wpAny_truthy_dict hS m (by omega) ⟨H, I.tok _, by rw [isEmpty_kv r]; exact q⟩
  | _ => exact (show False from e).elim
theorem pt_truth (ha : PE X a ta) (he : ∀ whole, isTrue a X.env whole = (do let v ← whole; standAt a.pos; holding [v] (truthy v))) :
    PT X a (fun σ H Q => ta σ H fun x H' => ∃ k, TruV X.K x H' k ∧ Q k H') := by
  intro pins s σ H Q I h
  exact isTrue_plain (thn (ha pins s σ H _ I h) fun v s1 ⟨x, H1, I1, r1, q1⟩ => tru_ok pins s1 σ H1 x v Q I1 r1 q1) (he _)
theorem op_add_str : OpR X (binaryOp .Add) (fun x y H Q => ∃ i j, x = .str i ∧ y = .str j ∧ i.length + j.length ≤ sizeLine ∧ Q (.str (i ++ j)) H) := by
  intro pins s σ H x y v u Q I rx ry h
  obtain ⟨i, j, rfl, rfl, hz, q⟩ := h
  obtain ⟨t, rfl⟩ := rx
  obtain ⟨t', rfl⟩ := ry
  exact add_str (fun t' tk => ⟨.str (i ++ j), H, I.tok _, ⟨_, rfl⟩, q⟩) hz
theorem vals1 {x : V} {us : List Value} (r : Vals [x] us) : ∃ u, us = [u] ∧ RelV x u := by
  cases r with
  | cons r1 r2 => cases r2; exact ⟨_, rfl, r1⟩
theorem vals2 {x y : V} {us : List Value} (r : Vals [x, y] us) : ∃ u w', us = [u, w'] ∧ RelV x u ∧ RelV y w' := by
  cases r with
  | cons r1 r2 =>
    cases r2 with
    | cons r3 r4 => cases r4; exact ⟨_, _, rfl, r1, r3⟩
theorem call_max2 (hc : X.calm = true) : CallR X (.builtin "max") (fun xs H Q => ∃ i j, xs = [.int i, .int j] ∧ Q (.int (if j > i then j else i)) H) := by
  intro pins s σ H xs us Q I r h
  obtain ⟨i, j, rfl, q⟩ := h
  obtain ⟨u, w', rfl, ⟨t, rfl⟩, ⟨t', rfl⟩⟩ := vals2 r
  refine max_two_ints (I.ok.hd hc) fun h' tk k => ⟨_, H, I.kept k, ?_, q⟩
  by_cases hj : j > i
  · rw [if_pos hj, if_pos hj]; exact ⟨_, rfl⟩
  · rw [if_neg hj, if_neg hj]; exact ⟨_, rfl⟩
theorem call_min2 (hc : X.calm = true) : CallR X (.builtin "min") (fun xs H Q => ∃ i j, xs = [.int i, .int j] ∧ Q (.int (if j < i then j else i)) H) := by
  intro pins s σ H xs us Q I r h
  obtain ⟨i, j, rfl, q⟩ := h
  obtain ⟨u, w', rfl, ⟨t, rfl⟩, ⟨t', rfl⟩⟩ := vals2 r
  refine min_two_ints (I.ok.hd hc) fun h' tk k => ⟨_, H, I.kept k, ?_, q⟩
  by_cases hj : j < i
  · rw [if_pos hj, if_pos hj]; exact ⟨_, rfl⟩
  · rw [if_neg hj, if_neg hj]; exact ⟨_, rfl⟩
theorem call_str_int : CallR X (.type "str") (fun xs H Q => ∃ i, xs = [.int i] ∧ i.natAbs.log2 < 1920 ∧ Q (.str (toString i)) H) := by
  intro pins s σ H xs us Q I r h
  obtain ⟨i, rfl, hz, q⟩ := h
  obtain ⟨u, rfl, t, rfl⟩ := vals1 r
  exact PySem.P.str_of_int hz ⟨.str _, H, I.tok _, ⟨_, rfl⟩, q⟩
def LenV (K : PySem.W.Frag) (x : V) (H : Hp) (n : Nat) : Prop :=
  match x with
  | .str y => y.length ≤ sizeLine ∧ n = y.length
  | .byt y => y.size ≤ sizeLine ∧ n = y.size
  | .ref p => (∃ xs, SqL K H p xs ∧ n = xs.length) ∨ ∃ xs, SqT K H p xs ∧ n = xs.length
  | _ => False
theorem call_len : CallR X (.builtin "len") (fun xs H Q => ∃ x n, xs = [x] ∧ LenV X.K x H n ∧ Q (.int n) H) := by
  intro pins s σ H xs us Q I r h
  obtain ⟨x, n, rfl, e, q⟩ := h
  obtain ⟨u, rfl, rx⟩ := vals1 r
  have hl := line63
  have hs : sizeLine = 16777216 := sizeLine_eq
  cases x with
  | str y =>
    obtain ⟨t, rfl⟩ := rx
    obtain ⟨hy, e'⟩ : y.length ≤ sizeLine ∧ n = y.length := e
    subst e'
    exact len_str (by omega) ⟨.int _, H, I.tok _, ⟨_, rfl⟩, q⟩
  | byt y =>
    obtain ⟨t, rfl⟩ := rx
    obtain ⟨hy, e'⟩ : y.size ≤ sizeLine ∧ n = y.size := e
    subst e'
    exact PySem.W.len_bytes (by omega) ⟨.int _, H, I.tok _, ⟨_, rfl⟩, q⟩
  | ref p =>
    cases rx
    have e' : (∃ xs, SqL X.K H p xs ∧ n = xs.length) ∨ ∃ xs, SqT X.K H p xs ∧ n = xs.length := e
    rcases e' with ⟨xs, hx, e'⟩ | ⟨xs, hx, e'⟩
    · subst e'
      obtain ⟨its, r', pl, hz⟩ := I.list hx
      have hlen := r'.length
      exact Calls.call_len_list pl.isList (by simp only [List.size_toArray]; omega) ⟨.int xs.length, H, I.tok _, ⟨_, by simp only [List.size_toArray]; rw [hlen]⟩, q⟩
    · subst e'
      obtain ⟨its, r', pl, hz⟩ := I.tuple hx
      have hlen := r'.length
      exact len_tuple pl (by simp only [List.size_toArray]; omega) ⟨.int xs.length, H, I.tok _, ⟨_, by simp only [List.size_toArray]; rw [hlen]⟩, q⟩
  | _ => exact (show False from e).elim
end
end L2
namespace L2
open PySem PySem.Spec PyProof.Rows
structure ObjM (h : Heap) (x dx C : Addr) (mA : Str → Option Value) : Prop where
  obj : h.get? x = some (PySem.W.instObj C dx)
  ns : h.Ns1 dx mA
  ne : dx ≠ x
theorem lookIn_ns {h : Heap} {dx : Addr} {mA : Str → Option Value} (n : h.Ns1 dx mA) : ∃ od, h.get? dx = some od ∧ ∀ name, PySem.W.lookIn name od = some (mA name) := by
  obtain ⟨o, es, ep, ho, hd, hk, _, hm⟩ := n
  refine ⟨o, ho, fun name => ?_⟩
  have e := hm name
  unfold nsFind findBy at e
  rw [← Array.find?_toList] at e
  unfold PySem.W.lookIn
  rw [hd]
  dsimp only
  split
  · rename_i y q
    rw [q] at e
    exact congrArg some e
  · rename_i q
    rw [q] at e
    have a : es.toList.any (·.refKey) = false := by
      rw [List.any_eq_false]
      intro y hy
      obtain ⟨z, t, hkey⟩ := hk y (Array.mem_toList_iff.mp hy)
      simp [DictEntry.refKey, hkey]
    have a' : ¬ es.toList.any (·.refKey) = true := by rw [a]; exact Bool.false_ne_true
    rw [if_neg a']
    exact congrArg some e
theorem ObjM.look {h : Heap} {x dx C : Addr} {mA : Str → Option Value} (I : ObjM h x dx C mA) : ∃ od, PySem.W.InstAt h x (PySem.W.instObj C dx) C (some od) ∧ ∀ name, PySem.W.lookIn name od = some (mA name) :=
  let ⟨od, ho, hl⟩ := lookIn_ns I.ns
  ⟨od, ⟨I.obj, rfl, rfl, ho⟩, hl⟩
section
variable {prog : Program} {w : World} {A : Around} {E : Value → Shared → Prop} {s : Shared} {K : PySem.W.Frag} {x dx C f : Addr} {mA : Str → Option Value} {name : Str} {v : Value}
end
section
variable {P : Program} {w : World} {H H' : Hp} {h h' : Heap} {a C dx : Addr} {fs fs' : List (Str × V)}
theorem ins_get (hok : HOk P w H h) (e : H a = some (.ins C dx fs)) : ∃ mA, ObjM h a dx C mA ∧ (∀ f, RelO (fs.lookup f) (mA f)) ∧ PySem.Within mA (fs.map (·.1)) ∧ fs.length ≤ 1000 ∧ H dx = some (.own a) := by
  obtain ⟨d, z, ne, ob, mA, n, r, q⟩ := (show ObjOk P w H h a (.ins C dx fs) from hok a _ e)
  exact ⟨mA, ⟨ob, n, ne⟩, r, q, z, d⟩
end
structure Cls (K : PySem.W.Frag) (C : Addr) : Prop where
  pg : PySem.W.plainGet K C Str.empty = true
  hd : PySem.W.hasDictIn K C = true
  po : PySem.W.plainOver K C = true
  sa : PySem.W.findIn K (.ref C) "__setattr__" = some (some (.builtin "object.__setattr__"))
theorem Cls.get {K : PySem.W.Frag} {C : Addr} (c : Cls K C) (f : Str) : PySem.W.plainGet K C f = true := c.pg
section
variable {X : Cx} {pins : List (Addr × Obj)} {σ : St} {H : Hp} {s : Shared} {a C dx : Addr} {fs : List (Str × V)} {f : Str} {v : V} {A : Around} {E : Value → Shared → Prop}
end
section
variable {X : Cx} {o e value : Expr} {f : Str} {pos pos' tpos : Pos} {ta tv : TE}
end
section
variable {X : Cx} {pins : List (Addr × Obj)} {σ : St} {H : Hp} {s : Shared} {A : Around} {E : Value → Shared → Prop} {Q : Value → Shared → Prop} {c : Value} {b : Bool}
inductive TyOf (K : PySem.W.Frag) (H : Hp) : V → Value → Prop where
  | non : TyOf K H .non (.type "NoneType")
  | bl (x : Bool) : TyOf K H (.bl x) (.type "bool")
  | int (i : Int) : TyOf K H (.int i) (.type "int")
  | str (x : Str) : TyOf K H (.str x) (.type "str")
  | flt (x : UInt64) : TyOf K H (.flt x) (.type "float")
  | lst {a : Addr} {xs : List V} (e : H a = some (.lst xs)) : TyOf K H (.ref a) (.type "list")
  | frz {a : Addr} {o : Obj} {xs : List V} (e : H a = some (.frz o (.lst xs))) : TyOf K H (.ref a) (.type "list")
  | tup {a : Addr} {xs : List V} (e : H a = some (.tup xs)) : TyOf K H (.ref a) (.type "tuple")
  | dK {a : Addr} {kvs : List (Key × V)} (e : H a = some (.dK kvs)) : TyOf K H (.ref a) (.type "dict")
  | dT {a : Addr} {kvs : List (List Key × V)} (e : H a = some (.dT kvs)) : TyOf K H (.ref a) (.type "dict")
  | ins {a C dx : Addr} {fs : List (Str × V)} (e : H a = some (.ins C dx fs)) (cl : Cls K C) (ha : PySem.W.findIn K (.ref C) "__class__" = some (some (.builtin "object.__class__")))
      (hn : PySem.W.specialIn K (.builtin "object.__class__") "__get__" = some (some (.builtin "getset_descriptor.__get__"))) (htk : PySem.W.takesIn K (.builtin "object.__class__") = some true)
      (hm : PySem.W.mroIn K C (.type "object") = some true) : TyOf K H (.ref a) (.ref C)
theorem isinst_ok {x : V} {u t : Value} (I : Inv X pins σ H s) (rx : RelV x u) (ty : TyOf X.K H x t) (e : PySem.W.kitOne X.K t c = some b) (h : ∀ tk, Q (.bool b) { s with toks := tk }) :
    wpAny (model X.prog X.w) A (call (.builtin "isinstance") [u, c]) Q E s := by
  cases ty with
  | non => cases (show u = Value.none from rx); exact PySem.W.kia_one PySem.W.kitx_none I.kIn True.intro e (fun z => nomatch z) h
  | bl y => cases (show u = Value.bool y from rx); exact PySem.W.kia_one PySem.W.kitx_bool I.kIn True.intro e (fun z => nomatch z) h
  | int i => obtain ⟨t, q⟩ := (show ∃ t, u = Value.int i t from rx); cases q; exact PySem.W.kia_one PySem.W.kitx_int I.kIn True.intro e (fun z => nomatch z) h
  | str y => obtain ⟨t, q⟩ := (show ∃ t, u = Value.str y t from rx); cases q; exact PySem.W.kia_one PySem.W.kitx_str I.kIn True.intro e (fun z => nomatch z) h
  | flt y => obtain ⟨t, q⟩ := (show ∃ t, u = Value.float y t from rx); cases q; exact PySem.W.kia_one PySem.W.kitx_float I.kIn True.intro e (fun z => nomatch z) h
  | @lst a xs ea =>
    cases (show u = Value.ref a from rx)
    obtain ⟨_, _, n, _, h1⟩ := (show ObjOk X.prog X.w H s.heap a (.lst xs) from I.hok a _ ea)
    exact PySem.W.kia_one PySem.W.kitx_list I.kIn ⟨_, h1, rfl⟩ e (fun z => nomatch z) h
  | @frz a ob xs ea =>
    cases (show u = Value.ref a from rx)
    obtain ⟨_, _, _, n, _, h1⟩ := (show ObjOk X.prog X.w H s.heap a (.frz ob (.lst xs)) from I.hok a _ ea)
    exact PySem.W.kia_one PySem.W.kitx_list I.kIn ⟨_, h1, rfl⟩ e (fun z => nomatch z) h
  | @tup a xs ea =>
    cases (show u = Value.ref a from rx)
    obtain ⟨_, _, _, p⟩ := (show ObjOk X.prog X.w H s.heap a (.tup xs) from I.hok a _ ea)
    obtain ⟨o, h1, h2, _⟩ := p
    exact PySem.W.kia_one PySem.W.kitx_tuple I.kIn ⟨o, h1, h2⟩ e (fun z => nomatch z) h
  | @dK a kvs ea =>
    cases (show u = Value.ref a from rx)
    obtain ⟨_, _, vs, _, p⟩ := (show ObjOk X.prog X.w H s.heap a (.dK kvs) from I.hok a _ ea)
    obtain ⟨o, es, ep, h1, h2, _⟩ := p
    exact PySem.W.kia_one PySem.W.kitx_dict I.kIn ⟨o, h1, h2.1⟩ e (fun z => nomatch z) h
  | @dT a kvs ea =>
    cases (show u = Value.ref a from rx)
    obtain ⟨_, _, xs, _, o, es, ep, h1, h2, _⟩ := (show ObjOk X.prog X.w H s.heap a (.dT kvs) from I.hok a _ ea)
    exact PySem.W.kia_one PySem.W.kitx_dict I.kIn ⟨o, h1, h2.1⟩ e (fun z => nomatch z) h
  | @ins a C dx fs ea cl ha hn htk hm =>
    cases (show u = Value.ref a from rx)
    obtain ⟨mA, O, _⟩ := ins_get I.hok ea
    obtain ⟨od, J, _⟩ := O.look
    exact PySem.W.kia_one (PySem.W.kitx_own (cl.get _) cl.hd ha hn htk hm) I.kIn J e (fun z => nomatch z) h
end
end L2
namespace L2
open PySem PySem.Spec PyProof.Rows
structure Room (k : Nat) (A : Around) : Prop where
  hd : A.handled = none
  dp : A.depth + 3 * k + 5 < recursionLimit
  un : A.units + 16 * k + 200 < cLine
theorem Room.mono {j k : Nat} {A : Around} (r : Room k A) (h : j ≤ k) : Room j A := ⟨r.hd, by have := r.dp; omega, by have := r.un; omega⟩
theorem Room.deeper {k : Nat} {A : Around} (r : Room (k + 1) A) (env : Env) : Room k (A.deeper env) :=
  ⟨r.hd, by have := r.dp; show A.depth + 1 + 3 * k + 5 < _; omega, by have := r.un; show A.units + 3 + 16 * k + 200 < _; omega⟩
theorem Room.in1 {k : Nat} {A : Around} (r : Room (k + 1) A) : Room k A.in1 :=
  ⟨r.hd, by have := r.dp; show A.depth + 3 * k + 5 < _; omega, by have := r.un; show A.units + 1 + 16 * k + 200 < _; omega⟩
theorem Room.depth {k : Nat} {A : Around} (r : Room k A) : A.depth < recursionLimit := by have := r.dp; omega
theorem Room.units {k : Nat} {A : Around} (r : Room k A) : A.units + 64 < cLine := by have := r.un; omega
abbrev tNil : TA := fun _ H Q => Q [] H
abbrev tCons (ta : TE) (tr : TA) : TA := fun σ H Q => ta σ H fun x H1 => tr σ H1 fun xs H2 => Q (x :: xs) H2
section
variable {X : Cx} {e : Expr} {es : List Expr} {te : TE} {t : TA} {pos : Pos}
theorem pa_nil : PA X [] tNil := fun _ _ _ _ H Q I h => Calls.spliced_nil ⟨[], H, I, .nil, h⟩
theorem pa_cons (ha : PE X e te) (hr : PA X es t) (hs : starEach (e :: es) X.env = (false, eval e X.env) :: starEach es X.env := by rfl) : PA X (e :: es) (tCons te t) := by
  intro pos pins s σ H Q I h
  rw [hs]
  show wpAny _ _ (spliced ((false, eval e X.env) :: backTo pos (starEach es X.env))) _ _ s
  refine Calls.spliced_cons (thn (ha pins s σ H _ I h) fun u s1 ⟨x, H1, I1, r1, q1⟩ => ?_)
  exact thn (hr pos pins s1 σ H1 _ I1 q1) fun us s2 ⟨xs, H2, I2, r2, q2⟩ => ⟨x :: xs, H2, I2, .cons r1 r2, q2⟩
abbrev tTup (t : TA) : TE := fun σ H Q => t σ H fun xs H1 => xs.length ≤ sizeLine ∧ ∀ p, H1 p = none → Q (.ref p) (upd H1 p (.tup xs))
abbrev tLst (t : TA) : TE := fun σ H Q => t σ H fun xs H1 => xs.length ≤ sizeLine ∧ ∀ p, H1 p = none → Q (.ref p) (upd H1 p (.lst xs))
theorem pe_tup {x1} (h : PA X es t) : PE X (.Tuple es x1 pos) (tTup t) := by
  intro pins s σ H Q I hq
  refine wpAny_Tuple_spliced (thn (h pos pins s σ H _ I hq) fun us s1 ⟨xs, H1, I1, r, z, q⟩ => ⟨by rw [← r.length]; exact z, ?_⟩)
  have hf : H1 s1.heap.objs.size = none := I1.hok.fresh (Nat.le_refl _)
  refine ⟨.ref s1.heap.objs.size, upd H1 s1.heap.objs.size (.tup xs), I1.laid (t' := s1.toks) (fun b u e => Heap.get?_push_of_some _ e) (Nat.le_refl _) ?_, rfl, q _ hf⟩
  exact ⟨z, us, r, ⟨_, Heap.get?_push_size _ rfl, rfl, rfl, _, rfl⟩⟩
theorem pe_lst (h : PA X es t) : PE X (.List es pos) (tLst t) := by
  intro pins s σ H Q I hq
  refine wpAny_List_spliced (thn (h pos pins s σ H _ I hq) fun us s1 ⟨xs, H1, I1, r, z, q⟩ => ⟨by rw [← r.length]; exact z, ?_⟩)
  have hf : H1 s1.heap.objs.size = none := I1.hok.fresh (Nat.le_refl _)
  refine ⟨.ref s1.heap.objs.size, upd H1 s1.heap.objs.size (.lst xs), I1.laid (t' := s1.toks) (fun b u e => Heap.get?_push_of_some _ e) (Nat.le_refl _) ?_, rfl, q _ hf⟩
  exact ⟨z, us, 0, r, Heap.get?_push_size _ rfl⟩
end
abbrev Sp := List V → Hp → VK → XK → Prop
abbrev CXT := List Env → Hp → Shared → XK → Value → Shared → Prop
structure Env0 (P : Program) (w : World) (K : PySem.W.Frag) (mg : Str → Option Value) (base : Heap) (A : Around) (outer : List Env) (s : Shared) (H : Hp) : Prop where
  frames : A.frames = some outer
  mod : Mod K mg base
  bs : ∀ b o, base.get? b = some o → s.heap.get? b = some o ∧ H b = none
  bsz : base.objs.size ≤ s.heap.objs.size
  funs : s.heap.FunFrames base outer
  frf : ∀ b ∈ frs outer, H b = none
  hok : HOk P w H s.heap
  bare : AllBare s.gens
def CE (outer : List Env) (P : Program) (w : World) (H : Hp) (s : Shared) (Q : VK) (u : Value) (s' : Shared) : Prop :=
  ∃ v H', s'.os = s.os ∧ AllBare s'.gens ∧ Un (frs outer) [] H H' s.heap s'.heap ∧ HOk P w H' s'.heap ∧ RelV v u ∧ Q v H'
def CR (CX : CXT) (outer : List Env) (P : Program) (w : World) (H : Hp) (s : Shared) (Q : VK) (E : XK) (r : Result) (s' : Shared) : Prop :=
  match r with
  | .ok (.ret u) => CE outer P w H s Q u s'
  | .ok _ => False
  | .error e => CX outer H s E e s'
structure FnOk (P : Program) (w : World) (K : PySem.W.Frag) (mg : Str → Option Value) (base : Heap) (CX : CXT) (k : Nat) (f : Addr) (fd : FuncData) (ps : List Str) (sp : Sp) : Prop where
  len : ∀ vs H Q E, sp vs H Q E → vs.length = ps.length
  run : ∀ (A : Around) (outer : List Env) (s : Shared) (H : Hp) (args : Args) (us : List Value) (vs : List V) (Q : VK) (E : XK), Room k A → Env0 P w K mg base A outer s H → BindsTo s fd args (ps.zip us) → Vals vs us → sp vs H Q E →
    codeAny (model P w) A (.call (.ref f) args) (CR CX outer P w H s Q E) s
theorem FnOk.mono {P : Program} {w : World} {K : PySem.W.Frag} {mg : Str → Option Value} {base : Heap} {CX : CXT} {j k : Nat} {f : Addr} {fd : FuncData} {ps : List Str} {sp : Sp} (F : FnOk P w K mg base CX j f fd ps sp) (h : j ≤ k) :
    FnOk P w K mg base CX k f fd ps sp := ⟨F.len, fun A outer s H args us vs Q E hr => F.run A outer s H args us vs Q E (hr.mono h)⟩
theorem FnOk.imp {P : Program} {w : World} {K : PySem.W.Frag} {mg : Str → Option Value} {base : Heap} {CX : CXT} {k : Nat} {f : Addr} {fd : FuncData} {ps : List Str} {sp sp' : Sp} (F : FnOk P w K mg base CX k f fd ps sp)
    (h : ∀ vs H Q E, sp' vs H Q E → sp vs H Q E) : FnOk P w K mg base CX k f fd ps sp' :=
  ⟨fun vs H Q E q => F.len vs H Q E (h _ _ _ _ q), fun A outer s H args us vs Q E hr he hb hv hs => F.run A outer s H args us vs Q E hr he hb hv (h _ _ _ _ hs)⟩
theorem Env0.in1 {P : Program} {w : World} {K : PySem.W.Frag} {mg : Str → Option Value} {base : Heap} {A : Around} {outer : List Env} {s : Shared} {H : Hp} (e : Env0 P w K mg base A outer s H) :
    Env0 P w K mg base A.in1 outer s H := ⟨e.frames, e.mod, e.bs, e.bsz, e.funs, e.frf, e.hok, e.bare⟩
section
variable {X : Cx} {pins : List (Addr × Obj)} {σ : St} {H : Hp} {s s' : Shared}
theorem Inv.env0 (I : Inv X pins σ H s) : Env0 X.prog X.w X.K X.mg X.base X.A X.stack s H :=
  ⟨I.ok.frames, I.ok.mod, I.bs, Nat.le_trans I.ok.bsz I.sz, I.stack, I.stkFree, I.hok, I.bare⟩
theorem Inv.after {Q : VK} {u : Value} (I : Inv X pins σ H s) (h : CE X.stack X.prog X.w H s Q u s') : EP X pins σ Q u s' := by
  obtain ⟨v, H', os, bare, un, hok, r, q⟩ := h
  obtain ⟨hh, g, d, t, os'⟩ := s'
  obtain rfl : os' = s.os := os
  exact ⟨v, H', I.call (h' := hh) (g' := g) (d' := d) (t' := t) (ch := []) un hok bare (fun b z => absurd z (by simp)), r, q⟩
end
abbrev tCall (sp : Sp) (dvs : List V) (E : XK) (t : TA) : TE := fun σ H Q => t σ H fun vs H1 => sp (vs ++ dvs) H1 Q E
def Binds (K : PySem.W.Frag) (fd : FuncData) (ps : List Str) (ds : List Value) : Prop :=
  ∀ (s : Shared) (us : List Value), K.In s.heap → (us ++ ds).length = ps.length → BindsTo s fd ⟨us, []⟩ (ps.zip (us ++ ds))
theorem Binds.all {K : PySem.W.Frag} {fd : FuncData} {ps : List Str} (h : ∀ us : List Value, us.length = ps.length → bindArgs fd ⟨us, []⟩ = pure (ps.zip us)) : Binds K fd ps [] := fun s us _ hl => by
  rw [List.append_nil] at hl ⊢
  exact .of_eq (h us hl)
def Passes (CX : CXT) (X : Cx) (E : XK) : Prop := ∀ (pins : List (Addr × Obj)) (σ : St) (H : Hp) (s : Shared) (e : Value) (s' : Shared), Inv X pins σ H s → CX X.stack H s E e s' → X.xe e s'
section
variable {X : Cx} {CX : CXT} {k : Nat} {f C : Addr} {fd : FuncData} {ps : List Str} {sp : Sp} {dvs : List V} {ds : List Value} {E : XK} {x m : Str} {p pos apos : Pos} {e o : Expr} {es : List Expr} {ta : TE} {t : TA}
theorem run_fn {pins : List (Addr × Obj)} {σ : St} {H : Hp} {s : Shared} {Q : VK} {us : List Value} {vs : List V} (F : FnOk X.prog X.w X.K X.mg X.base CX k f fd ps sp) (hr : Room k X.A) (hb : Binds X.K fd ps ds) (hd : Vals dvs ds) (hx : Passes CX X E)
    (I : Inv X pins σ H s) (r : Vals vs us) (h : sp (vs ++ dvs) H Q E) : wpAny (model X.prog X.w) X.A (call (.ref f) us) (EP X pins σ Q) X.xe s := by
  have r2 : Vals (vs ++ dvs) (us ++ ds) := r.append hd
  have hl : (us ++ ds).length = ps.length := by rw [← r2.length]; exact F.len _ _ _ _ h
  refine wpAny_call (codeAny_mono (F.run X.A X.stack s H ⟨us, []⟩ (us ++ ds) (vs ++ dvs) Q E hr I.env0 (hb s us I.kIn hl) r2 h) fun r s' hq => ?_)
  cases r with
  | error e => exact hx pins σ H s e s' I hq
  | ok fl =>
    cases fl with
    | ret u => exact I.after hq
    | next => exact False.elim hq
    | brk => exact False.elim hq
    | cont => exact False.elim hq
theorem pe_call (F : FnOk X.prog X.w X.K X.mg X.base CX k f fd ps sp) (hr : Room k X.A) (hg : Gl X x) (hm : X.mg x = some (.ref f)) (hk : PySem.W.keepIn X.K (.ref f) = true) (hb : Binds X.K fd ps ds) (hd : Vals dvs ds) (hx : Passes CX X E)
    (ha : PA X (e :: es) t) (hdb : (x == ("__debug__" : Str)) = false := by decide) (he : starEach (e :: es) X.env = (false, eval e X.env) :: starEach es X.env := by rfl) (hpl : (backTo pos (starEach es X.env)).any (·.1) = false := by rfl) :
    PE X (.Call (.Name x p) (e :: es) [] pos) (tCall sp dvs E t) := by
  intro pins s σ H Q I h
  refine wpAny_Call_Name_kw (ld_glob I hg hm ?_ hdb)
  refine PySem.W.callWith_K (h₀ := X.base) I.ok.mod.kin hk (thn (ha pos pins s σ H _ I h) fun us s1 ⟨vs, H1, I1, r, q⟩ => ⟨I1.kIn, ?_⟩) he hpl
  exact run_fn F hr hb hd hx I1 r q
end
section
variable {X : Cx} {CX : CXT} {k : Nat} {f C : Addr} {fd : FuncData} {ps ks : List Str} {sp : Sp} {E : XK} {x m : Str} {p pos apos kpos : Pos} {e o : Expr} {es : List Expr} {kws : List Keyword} {te ta : TE} {t tk : TA} {nm : Option Str}
variable {g : List Value → List Value → List Value} {gV : List V → List V → List V}
end
structure FnScope (N P : List Str) (sc : Scope) : Prop where
  kind : sc.kind = .function
  co : sc.isCoroutine = false
  gen : sc.isGenerator = false
  nd : N.Nodup
  pre : N.take P.length = P
  par : ∀ x ∈ P, sc.names.lookup x = some .local ∨ sc.names.lookup x = some .cell
  nofree : ∀ y ∈ sc.names, y.2 ≠ .free
theorem bindL_out {kindOf : Str → Option NameKind} {x : Str} : ∀ {binds : List (Str × Value)} {m : Str → Option Value}, (∀ v, (x, v) ∉ binds) → bindL kindOf binds m x = m x
  | [], _, _ => rfl
  | (n, v) :: r, m, h => by
    unfold bindL
    rw [bindL_out fun w hw => h w (List.mem_cons_of_mem _ hw)]
    split
    · have : x ≠ n := by rintro rfl; exact h v List.mem_cons_self
      simp [this]
    · rfl
theorem bindC_out {kindOf : Str → Option NameKind} {x : Str} : ∀ {binds : List (Str × Value)} {m : Str → Option Value}, (∀ v, (x, v) ∉ binds) → bindC kindOf binds m x = m x
  | [], _, _ => rfl
  | (n, v) :: r, m, h => by
    unfold bindC
    rw [bindC_out fun w hw => h w (List.mem_cons_of_mem _ hw)]
    split
    · rfl
    · have : x ≠ n := by rintro rfl; exact h v List.mem_cons_self
      simp [this]
theorem bindL_get {kindOf : Str → Option NameKind} {x : Str} {v : Value} : ∀ {P : List Str} {vs : List Value} {i : Nat} {m : Str → Option Value}, P.Nodup → P[i]? = some x → vs[i]? = some v → kindOf x = some .local →
    bindL kindOf (P.zip vs) m x = some v
  | [], _, _, _, _, h, _, _ => by simp at h
  | _ :: _, [], _, _, _, _, h, _ => by simp at h
  | p :: P, w :: vs, 0, m, nd, h1, h2, hk => by
    simp at h1 h2; subst h1; subst h2
    show bindL kindOf ((p, w) :: P.zip vs) m p = _
    unfold bindL
    rw [bindL_out fun v hv => (List.nodup_cons.mp nd).1 (List.of_mem_zip hv).1, if_pos hk]
    simp
  | p :: P, w :: vs, i + 1, m, nd, h1, h2, hk => by
    show bindL kindOf ((p, w) :: P.zip vs) m x = _
    unfold bindL
    exact bindL_get (i := i) (List.nodup_cons.mp nd).2 (by simpa using h1) (by simpa using h2) hk
theorem bindC_get {kindOf : Str → Option NameKind} {x : Str} {v : Value} : ∀ {P : List Str} {vs : List Value} {i : Nat} {m : Str → Option Value}, P.Nodup → P[i]? = some x → vs[i]? = some v → kindOf x ≠ some .local →
    bindC kindOf (P.zip vs) m x = some v
  | [], _, _, _, _, h, _, _ => by simp at h
  | _ :: _, [], _, _, _, _, h, _ => by simp at h
  | p :: P, w :: vs, 0, m, nd, h1, h2, hk => by
    simp at h1 h2; subst h1; subst h2
    show bindC kindOf ((p, w) :: P.zip vs) m p = _
    unfold bindC
    rw [bindC_out fun v hv => (List.nodup_cons.mp nd).1 (List.of_mem_zip hv).1, if_neg hk]
    simp
  | p :: P, w :: vs, i + 1, m, nd, h1, h2, hk => by
    show bindC kindOf ((p, w) :: P.zip vs) m x = _
    unfold bindC
    exact bindC_get (i := i) (List.nodup_cons.mp nd).2 (by simpa using h1) (by simpa using h2) hk
def start (N : List Str) (vs : List V) : St := vs.map some ++ List.replicate (N.length - vs.length) none
def cxOf (CX : CXT) (P : Program) (w : World) (K : PySem.W.Frag) (mg : Str → Option Value) (base : Heap) (N : List Str) (qual : Str) (scope : Scope) (f : Addr) (cd : Value) (A : Around) (outer : List Env) (s : Shared) (H : Hp) (E : XK) : Cx where
  prog := P
  w := w
  K := K
  mg := mg
  base := base
  A := A.deeper (envOfC qual scope s.heap.objs.size f cd)
  N := N
  s₀ := s
  H₀ := H
  env := envOfC qual scope s.heap.objs.size f cd
  outer := outer
  stack := envOfC qual scope s.heap.objs.size f cd :: outer
  ex := []
  calm := true
  fn := fun _ => true
  pn := []
  xe := fun e s' => wpAny (model P w) (A.deeper (envOfC qual scope s.heap.objs.size f cd)) (leaving (envOfC qual scope s.heap.objs.size f cd) e) (fun _ s'' => CX outer H s E e s'') (fun e' s'' => CX outer H s E e' s'') s'
theorem cell_has {sc : Scope} {n : Nat} {x : Str} (h : sc.names.lookup x = some .cell) : ∃ c, (cellsFrom n sc.names []).lookup x = some c := by
  have q := PySem.W.cellsFrom_some sc.names n [] (.inl h)
  exact Option.isSome_iff_exists.mp q
theorem inv_start {CX : CXT} {P : Program} {w : World} {K : PySem.W.Frag} {mg : Str → Option Value} {base : Heap} {N ps : List Str} {qual : Str} {scope : Scope} {f : Addr} {cd : Value} {A : Around} {outer : List Env} {s s1 : Shared} {H : Hp} {E : XK} {us : List Value} {vs : List V}
    (S : FnScope N ps scope) (hd : A.handled = none) (e0 : Env0 P w K mg base A outer s H) (hl : vs.length = ps.length) (r : Vals vs us)
    (x : InCallC s s.heap.objs.size (bindL (envOfC qual scope s.heap.objs.size f cd).kindOf (ps.zip us) fun _ => none) (cellsFrom (s.heap.objs.size + 1) scope.names []) (bindC (envOfC qual scope s.heap.objs.size f cd).kindOf (ps.zip us) fun _ => none) s1) :
    Inv (cxOf CX P w K mg base N qual scope f cd A outer s H E) [] (start N vs) H s1 := by
  have hpl : ps.length ≤ N.length := by have := congrArg List.length S.pre; rw [List.length_take] at this; omega
  obtain ⟨h1, tk, rfl, hk⟩ := x.done
  have noA : ∀ b : Addr, b ∉ (cxOf CX P w K mg base N qual scope f cd A outer s H E).ex := fun b z => absurd (show b ∈ ([] : List Addr) from z) (by simp)
  refine ⟨⟨e0.mod, S.kind, rfl, rfl, Nat.le_refl _, fun y z c h1 h2 => ?_, fun y hy => ?_, fun y c _ h => ?_, fun _ => hd, Around.frames_deeper e0.frames, .inr ⟨rfl, rfl⟩, fun b z => absurd z (noA b), e0.bs, e0.bsz, fun b _ _ => noA b, fun b z => absurd z (noA b), e0.funs, e0.frf⟩,
    rfl, e0.bare, Un.kept hk, ⟨_, x.toInCall.ns, fun i y v h1 h2 h3 => ?_⟩, fun y c h => ⟨_, x.cell y c h⟩, e0.hok.fresh (Nat.le_refl _), fun y c h => ?_, fun p hp => absurd (show p ∈ ([] : List (Addr × Obj)) from hp) (by simp), e0.hok.kept hk, ?_⟩
  · exact name_of_addr x.apart (PySem.mem_of_lookup h1) (PySem.mem_of_lookup h2)
  · have hy : scope.names.lookup y = some .cell ∨ scope.names.lookup y = some .free := hy
    rcases hy with hy | hy
    · exact cell_has hy
    · exact absurd rfl (S.nofree _ (PySem.mem_of_lookup hy))
  · exact Nat.le_of_lt (x.above y c (PySem.mem_of_lookup h))
  · have hi : i < vs.length := by
      unfold start at h2
      by_cases hi : i < vs.length
      · exact hi
      · rw [List.getElem?_append_right (by simpa using hi)] at h2
        rw [List.getElem?_replicate] at h2
        split at h2 <;> cases h2
    have ha : vs[i]? = some v := by
      unfold start at h2
      rw [List.getElem?_append_left (by simpa using hi), List.getElem?_map] at h2
      cases e : vs[i]? with
      | none => rw [e] at h2; cases h2
      | some a => rw [e] at h2; cases h2; rfl
    obtain ⟨u, hu, rv⟩ := r.get ha
    have hp : ps[i]? = some y := by
      rw [← S.pre, List.getElem?_take_of_lt (by omega)]; exact h1
    have ndP : ps.Nodup := by rw [← S.pre]; exact S.nd.sublist (List.take_sublist _ _)
    refine ⟨u, rv, ?_⟩
    rcases S.par y (List.mem_of_getElem? hp) with k | k
    · exact .inl ⟨k, bindL_get ndP hp hu k⟩
    · obtain ⟨c, e⟩ := cell_has (n := s.heap.objs.size + 1) k
      refine .inr ⟨.inl k, c, e, ?_⟩
      have q := x.cell y c e
      rw [bindC_get ndP hp hu (by show scope.names.lookup y ≠ _; rw [k]; decide)] at q
      exact q
  · exact e0.hok.fresh (Nat.le_of_lt (x.above y c (PySem.mem_of_lookup h)))
  · unfold start
    show _ = N.length
    rw [List.length_append, List.length_map, List.length_replicate]
    omega
theorem fn_of {CX : CXT} {P : Program} {w : World} {K : PySem.W.Frag} {mg : Str → Option Value} {base : Heap} {k : Nat} {f : Addr} {name qual : Str} {params : Arguments} {body : List Stmt} {scope : Scope} {dV kV doc pm cdv ct oc : Value} {an od : Option Addr}
    {osl : Array (Option Value)} {N ps : List Str} {sp : Sp} (lk : K.lookup f = some ⟨oc, od, .func (PySem.W.fnOf name qual params body scope dV kV doc pm an cdv ct), osl⟩) (hcd : PySem.W.codeIn K cdv qual = true) (S : FnScope N ps scope)
    (len : ∀ vs H Q E, sp vs H Q E → vs.length = ps.length)
    (hbody : ∀ (A : Around) (outer : List Env) (s : Shared) (H : Hp) (vs : List V) (Q : VK) (E : XK), Room k (A.deeper (envOfC qual scope s.heap.objs.size f cdv)) → sp vs H Q E →
      ∃ t, PSs (cxOf CX P w K mg base N qual scope f cdv A outer s H E) body t ∧ t { nx := fun _ H' => Q .non H', rt := Q } (start N vs) H) :
    FnOk P w K mg base CX (k + 1) f (PySem.W.fnOf name qual params body scope dV kV doc pm an cdv ct) ps sp := by
  refine ⟨len, fun A outer s H args us vs Q E hr e0 hb r hsp => ?_⟩
  have hl := len _ _ _ _ hsp
  have KX : K.In s.heap := e0.mod.kin.keeps fun b o e => (e0.bs b o e).1
  have lim : s.heap.NoLimit := e0.mod.nolimit.keeps fun b o e => (e0.bs b o e).1
  have hkind : ∀ y ∈ ps.zip us, scope.names.lookup y.1 = some .local ∨ (scope.names.lookup y.1 = some .cell ∧ ((cellsFrom (s.heap.objs.size + 1) scope.names []).lookup y.1).isSome = true) := fun ⟨n, v⟩ hy => by
    rcases S.par n (List.of_mem_zip hy).1 with q | q
    · exact .inl q
    · exact .inr ⟨q, PySem.W.cellsFrom_some _ _ _ (.inl q)⟩
  refine codeAny_call_function hr.depth (KX _ _ lk) rfl S.co S.gen rfl (PySem.W.codeRec_of KX hcd) (hb _ _ _ _ ?_)
  refine wpAny_newFunctionEnv_cells S.kind hkind fun env he s1 x => ?_
  subst he
  refine ⟨lim.keeps x.toInCall.keep, codeAny_func ?_⟩
  obtain ⟨t, ht, hq⟩ := hbody A outer s H vs Q E (hr.deeper _) hsp
  have I : Inv (cxOf CX P w K mg base N qual scope f cdv A outer s H E) [] (start N vs) H s1 := inv_start S hr.hd e0 hl r x
  refine wpAny_mono (ht [] s1 (start N vs) H _ I hq) (fun fl s' hs => ?_) fun e s' hs => hs
  have fin : ∀ {σ' : St} {H' : Hp} {v : V} {u : Value}, Inv (cxOf CX P w K mg base N qual scope f cdv A outer s H E) [] σ' H' s' → RelV v u → Q v H' → CE outer P w H s Q u s' :=
    fun {σ' H' v u} J rv q => ⟨v, H', J.os, J.bare, J.base, J.hok, rv, q⟩
  cases fl with
  | ret u =>
    obtain ⟨v, σ', H', J, rv, q⟩ := hs
    exact fin J rv q
  | next =>
    obtain ⟨σ', H', J, q⟩ := hs
    exact fin (v := V.non) (u := Value.none) J rfl q
  | brk =>
    obtain ⟨_, _, _, q⟩ := hs
    exact False.elim q
  | cont =>
    obtain ⟨_, _, _, q⟩ := hs
    exact False.elim q
end L2
namespace L2
open PySem PySem.Spec PyProof.Rows
section
variable {X : Cx} {x : Str} {p pos : Pos} {e : Expr} {es : List Expr} {t : TA} {id T : String} {r : List V → Hp → VK → Prop}
abbrev tCB (r : List V → Hp → VK → Prop) (t : TA) : TE := fun σ H Q => t σ H fun vs H1 => r vs H1 Q
theorem pe_callB (hc : CallR X (.builtin id) r) (hg : Gl X x) (hm : X.mg x = none) (hv : bootBuiltins x = some (.builtin id)) (ha : PA X (e :: es) t) (hn : x ≠ "__name__" := by decide) (hdb : (x == ("__debug__" : Str)) = false := by decide)
    (he : starEach (e :: es) X.env = (false, eval e X.env) :: starEach es X.env := by rfl) (hpl : (backTo pos (starEach es X.env)).any (·.1) = false := by rfl) : PE X (.Call (.Name x p) (e :: es) [] pos) (tCB r t) := by
  intro pins s σ H Q I h
  refine wpAny_Call_Name_kw (ld_blt I hg hm hv ?_ hn hdb)
  exact PyProof.Rows.callWith_builtin1 (thn (ha pos pins s σ H _ I h) fun us s1 ⟨vs, H1, I1, r1, q1⟩ => hc pins s1 σ H1 vs us Q I1 r1 q1) he hpl
theorem pe_callTy (hc : CallR X (.type T) r) (hg : Gl X x) (hm : X.mg x = none) (hv : bootBuiltins x = some (.type T)) (ha : PA X (e :: es) t) (hn : x ≠ "__name__" := by decide) (hdb : (x == ("__debug__" : Str)) = false := by decide)
    (he : starEach (e :: es) X.env = (false, eval e X.env) :: starEach es X.env := by rfl) (hpl : (backTo pos (starEach es X.env)).any (·.1) = false := by rfl) : PE X (.Call (.Name x p) (e :: es) [] pos) (tCB r t) := by
  intro pins s σ H Q I h
  refine wpAny_Call_Name_kw (ld_blt I hg hm hv ?_ hn hdb)
  exact PyProof.Rows.callWith_type1 (thn (ha pos pins s σ H _ I h) fun us s1 ⟨vs, H1, I1, r1, q1⟩ => hc pins s1 σ H1 vs us Q I1 r1 q1) he hpl
end
end L2
namespace HT
open PySem PyProof.Rows
section
open PySem.SeqAt
open PySem.AutoSeq1 (wpAny_loadPart')
open PySem.MeetsSeq PySem.MeetsSeq2 PySem.MeetsSeq3
end
section
variable {prog : Program} {w : World} {A : Around} {E : Value → Shared → Prop} {s : Shared}
theorem cat_tup {t b : Addr} {vs ws : List Value} {Q : Value → Shared → Prop} (ht : IsTup s.heap t vs.toArray) (hb : IsTup s.heap b ws.toArray) (hv : vs ≠ [])
    (h1 : ws = [] → Q (.ref t) s) (h2 : ws ≠ [] → Q (.ref s.heap.objs.size) { s with heap := s.heap.push { cls := .type "tuple", data := .seq (vs ++ ws).toArray } })
    (hsz : vs.length + ws.length ≤ sizeLine) : wpAny (model prog w) A (binaryOp .Add (.ref t) (.ref b)) Q E s := by
  obtain ⟨⟨cls, dd, data, sl⟩, ho, hc, n, hd⟩ := id ht
  obtain ⟨⟨cls2, dd2, data2, sl2⟩, ho2, hc2, n2, hd2⟩ := id hb
  simp only at hc hd hc2 hd2
  subst hc hd hc2 hd2
  have e : vs.toArray ++ ws.toArray = (vs ++ ws).toArray := by simp
  by_cases hw : ws = []
  · exact concat_meets ⟨_, ho, rfl⟩ ⟨_, ho2, rfl⟩ noFill_tuple_add seq_tuple_add PySem.F.slot_tuple_add PySem.F.entry_tuple_add (PySem.F.args_tuple_add_2 _ _)
      (tuple_addW1 t b vs.toArray ws.toArray n n2 dd dd2 sl sl2 (by simpa using hv) (by simp [hw])) ⟨ho, ho2, h1 hw⟩
  · refine concat_meets ⟨_, ho, rfl⟩ ⟨_, ho2, rfl⟩ noFill_tuple_add seq_tuple_add PySem.F.slot_tuple_add PySem.F.entry_tuple_add (PySem.F.args_tuple_add_2 _ _)
      (tuple_addW2 t b vs.toArray ws.toArray n n2 dd dd2 sl sl2 (by simpa using hv) (by simpa using hw) (by rw [List.size_toArray, List.size_toArray]; exact hsz)) ⟨ho, ho2, ?_⟩
    rw [e]
    exact h2 hw
def sIx (n d : Nat) : Option Int → Nat
  | none => d
  | some v => if v < 0 then (v + (n : Int)).toNat else min v.toNat n
theorem sIx_le (n d : Nat) (hd : d ≤ n) (o : Option Int) : sIx n d o ≤ n := by
  cases o with
  | none => exact hd
  | some v =>
    show (if v < 0 then (v + (n : Int)).toNat else min v.toNat n) ≤ n
    by_cases hv : v < 0
    · rw [if_pos hv]; omega
    · rw [if_neg hv]; exact Nat.min_le_right _ _
theorem clip_eq (v : Int) (n d : Nat) : (if v < 0 then max (v + (n : Int)) 0 else min v (n : Int)) = ((sIx n d (some v) : Nat) : Int) := by
  show (if v < 0 then max (v + (n : Int)) 0 else min v (n : Int)) = (((if v < 0 then (v + (n : Int)).toNat else min v.toNat n) : Nat) : Int)
  by_cases hv : v < 0
  · simp only [if_pos hv]; omega
  · simp only [if_neg hv]; omega
theorem adjust_gen (lo hi : Option Int) (n : Nat) : Builtin.Slice.sliceAdjust lo hi 1 (n : Int) = (((sIx n 0 lo : Nat) : Int), ((sIx n n hi : Nat) : Int)) := by
  have h1 : ¬ ((1 : Int) < 0) := by omega
  unfold Builtin.Slice.sliceAdjust
  simp only [h1, if_false]
  refine Prod.ext ?_ ?_
  · cases lo with
    | none => rfl
    | some v => exact clip_eq v n 0
  · cases hi with
    | none => rfl
    | some v => exact clip_eq v n n
theorem places_gen (i j : Nat) : Builtin.Slice.slicePlaces (i : Int) (j : Int) 1 = j - i := by
  unfold Builtin.Slice.slicePlaces
  have h1 : (1 : Int) > 0 := by omega
  simp only [h1, if_true, Int.ediv_one]
  split <;> omega
theorem slicePart_ {v : Value} {o : Option Int} {Q : Option Int → Shared → Prop} (p : IsPart v o) (h : Q o s) : wpAny (model prog w) A (Builtin.Slice.slicePartIndex v) Q E s := by
  cases p with
  | none => exact slicePart_none h
  | int i t => exact slicePart_int h
theorem sliceApplied_gen {sl : Addr} {vl vu : Value} {lo hi : Option Int} {n : Nat} {Q : Int × Int × Nat → Shared → Prop} (hs : s.heap.IsSliceOf sl vl vu .none) (pl : IsPart vl lo) (pu : IsPart vu hi)
    (h : Q (((sIx n 0 lo : Nat) : Int), 1, sIx n n hi - sIx n 0 lo) s) : wpAny (model prog w) A (Builtin.Slice.sliceApplied (.ref sl) (pure (n : Int))) Q E s := by
  obtain ⟨os, hos, hcs, hds⟩ := id hs
  unfold Builtin.Slice.sliceApplied Builtin.Slice.sliceFields
  refine wpAny_bind (wpAny_bind (wpAny_field hos hds (x := vl) rfl (wpAny_bind (wpAny_field hos hds (x := vu) rfl (wpAny_bind (wpAny_field hos hds (x := .none) rfl (wpAny_pure ?_)))))))
  refine wpAny_bind (slicePart_none ?_)
  show wpAny _ _ (if ((1 : Int) == 0) = true then _ else _) _ _ s
  rw [if_neg (by decide)]
  refine wpAny_bind (slicePart_ pl (wpAny_bind (slicePart_ pu (wpAny_bind (wpAny_pure ?_)))))
  show wpAny _ _ (match Builtin.Slice.sliceAdjust lo hi 1 (n : Int) with | (lo, hi) => pure (lo, (1 : Int), Builtin.Slice.slicePlaces lo hi 1)) _ _ s
  rw [adjust_gen lo hi n]
  show wpAny _ _ (pure (((sIx n 0 lo : Nat) : Int), (1 : Int), Builtin.Slice.slicePlaces ((sIx n 0 lo : Nat) : Int) ((sIx n n hi : Nat) : Int) 1)) _ _ s
  rw [places_gen]
  exact wpAny_pure h
theorem pick_gen (xs : Array Value) (i k : Nat) : ((List.range k).filterMap fun (m : Nat) => xs[((i : Int) + (m : Int) * 1).toNat]?).toArray = ((xs.toList.drop i).take k).toArray := by
  have e : (fun (m : Nat) => xs[((i : Int) + (m : Int) * 1).toNat]?) = fun m => xs[i + m]? := by
    funext m
    have : ((i : Int) + (m : Int) * 1).toNat = i + m := by omega
    rw [this]
  rw [e]
  have := pick_run xs i k
  rw [List.filterMap_map] at this
  have e2 : ((fun x => xs[x]?) ∘ fun x => i + x) = fun m => xs[i + m]? := rfl
  rw [e2] at this
  rw [this]
theorem getItem_tuple_cut {t sl : Addr} {items : Array Value} {vl vu : Value} {lo hi : Option Int} {Q : Value → Shared → Prop} (ht : IsTup s.heap t items) (hs : s.heap.IsSliceOf sl vl vu .none) (pl : IsPart vl lo) (pu : IsPart vu hi)
    (hw : ¬ (sIx items.size 0 lo = 0 ∧ sIx items.size items.size hi = items.size))
    (h : Q (.ref s.heap.objs.size) { s with heap := s.heap.push { cls := .type "tuple", data := .seq ((items.toList.drop (sIx items.size 0 lo)).take (sIx items.size items.size hi - sIx items.size 0 lo)).toArray } })
    (hsz : items.size ≤ sizeLine) : wpAny (model prog w) A (getItem (.ref t) (.ref sl)) Q E s := by
  have htake : sizeOk (.seq ((items.toList.drop (sIx items.size 0 lo)).take (sIx items.size items.size hi - sIx items.size 0 lo)).toArray) := by
    show ((items.toList.drop (sIx items.size 0 lo)).take (sIx items.size items.size hi - sIx items.size 0 lo)).toArray.size ≤ sizeLine
    rw [List.size_toArray, List.length_take, List.length_drop, Array.length_toList]
    omega
  have hj : sIx items.size items.size hi ≤ items.size := sIx_le _ _ (Nat.le_refl _) hi
  obtain ⟨os, hos, hcs, hds⟩ := id hs
  have hTs : s.TypeIs (.ref sl) "slice" := ⟨os, hos, hcs⟩
  unfold getItem
  try with_reducible refine wpAny_holding ?_
  first | refine wpAny_bind (wpAny_pure ?_) | skip
  refine wpAny_bind (wpAny_sequenceKey ht.typeIs (by decide) ?_)
  refine wpAny_bind (wpAny_callSpecial?_slot (name := Str.ofString "__getitem__") ht.typeIs PyProof.Rows.slot_tuple_getitem
    (wpAny_call_entry PyProof.Rows.slot_tuple_getitem ht.typeIs entry_tuple_getitem ?_ (args_tuple_getitem _ _)))
  show wpAny _ _ (Builtin.Tuple.tupleItemsOf (.ref t) >>= _) _ _ s
  refine wpAny_bind (tupleItemsOf_ ht ?_)
  refine wpAny_bind (wpAny_typeOf hTs ?_)
  rw [if_pos (by decide)]
  refine wpAny_bind (sliceApplied_gen hs pl pu ?_)
  have hno : ¬ ((((sIx items.size 0 lo : Nat) : Int) == 0 && (1 : Int) == 1 && (sIx items.size items.size hi - sIx items.size 0 lo) == items.size) = true) := by
    intro q
    rw [Bool.and_eq_true, Bool.and_eq_true] at q
    have q1 : ((sIx items.size 0 lo : Nat) : Int) = 0 := eq_of_beq q.1.1
    have q2 : sIx items.size items.size hi - sIx items.size 0 lo = items.size := eq_of_beq q.2
    exact hw ⟨by omega, by omega⟩
  show wpAny _ _ (if (((sIx items.size 0 lo : Nat) : Int) == 0 && (1 : Int) == 1 && (sIx items.size items.size hi - sIx items.size 0 lo) == items.size) = true then _ else _) _ _ s
  rw [if_neg hno, pick_gen]
  first
    | exact wpAny_bind (m := Builtin.Tuple.tupleExact _) (wpAny_newObj_type (wpAny_pure ⟨_, rfl, wpAny_pure h⟩) htake)
    | exact wpAny_bind (m := Builtin.Tuple.tupleExact _) (wpAny_newObj_type (wpAny_bind (wpAny_pure (wpAny_pure ⟨_, rfl, wpAny_pure h⟩))) htake)
    | exact wpAny_bind (wpAny_bind (m := Builtin.Tuple.tupleExact _) (wpAny_newObj_type (wpAny_pure (wpAny_pure ⟨_, rfl, wpAny_pure h⟩)) htake))
    | exact wpAny_bind (wpAny_bind (m := Builtin.Tuple.tupleExact _) (wpAny_newObj_type (wpAny_pure ⟨_, rfl, wpAny_pure h⟩) htake))
end
end HT
namespace L2
open PySem PySem.Spec PyProof.Rows
abbrev TO := St → Hp → (Option Int → Hp → Prop) → Prop
def PO (X : Cx) (e : Option Expr) (t : TO) : Prop :=
  ∀ (pins : List (Addr × Obj)) (s : Shared) (σ : St) (H : Hp) (Q : Option Int → Hp → Prop), Inv X pins σ H s → t σ H Q →
    wpAny (model X.prog X.w) X.A (evalPart e X.env) (fun u s' => ∃ o H', Inv X pins σ H' s' ∧ IsPart u o ∧ Q o H') X.xe s
abbrev tNoPart : TO := fun _ H Q => Q none H
abbrev tPart (t : TE) : TO := fun σ H Q => t σ H fun x H1 => ∃ i, x = .int i ∧ Q (some i) H1
section
variable {X : Cx} {e : Expr} {te : TE} {lo hi : Option Expr} {tl th : TO} {pos p2 : Pos}
theorem po_none : PO X none tNoPart := by
  intro pins s σ H Q I h
  rw [evalPart_none]
  exact wpAny_pure ⟨none, H, I, .none, h⟩
theorem po_some (h : PE X e te) : PO X (some e) (tPart te) := by
  intro pins s σ H Q I hw
  rw [evalPart_some]
  refine thn (h pins s σ H _ I hw) fun u s1 ⟨x, H1, I1, r1, q1⟩ => ?_
  obtain ⟨i, rfl, q⟩ := q1
  obtain ⟨t, rfl⟩ := r1
  exact ⟨some i, H1, I1, .int i t, q⟩
def SlR (X : Cx) (r : V → Option Int → Option Int → Hp → VK → Prop) : Prop :=
  ∀ (pins : List (Addr × Obj)) (s : Shared) (σ : St) (H : Hp) (x : V) (v vl vu : Value) (lo hi : Option Int) (sl : Addr) (Q : VK), Inv X pins σ H s → RelV x v → s.heap.IsSliceOf sl vl vu .none → IsPart vl lo → IsPart vu hi → r x lo hi H Q →
    ∃ T id, typeLookup (.type T) "__getitem__" = pure (some (.builtin id)) ∧ s.TypeIs v T ∧ wpAny (model X.prog X.w) X.A (getItem v (.ref sl)) (EP X pins σ Q) X.xe s
theorem SlR.or {r r' : V → Option Int → Option Int → Hp → VK → Prop} (h : SlR X r) (h' : SlR X r') : SlR X (fun x lo hi H Q => r x lo hi H Q ∨ r' x lo hi H Q) := by
  intro pins s σ H x v vl vu lo hi sl Q I rx hs pl pu q
  rcases q with q | q
  · exact h pins s σ H x v vl vu lo hi sl Q I rx hs pl pu q
  · exact h' pins s σ H x v vl vu lo hi sl Q I rx hs pl pu q
abbrev tSl (r : V → Option Int → Option Int → Hp → VK → Prop) (te : TE) (tl th : TO) : TE := fun σ H Q => te σ H fun x H1 => tl σ H1 fun l H2 => th σ H2 fun u H3 => r x l u H3 Q
theorem pe_slice {r : V → Option Int → Option Int → Hp → VK → Prop} (hr : SlR X r) (he : PE X e te) (hl : PO X lo tl) (hu : PO X hi th) : PE X (.Subscript e (.Slice lo hi none p2) pos) (tSl r te tl th) := by
  intro pins s σ H Q I h
  refine Subscript_ (thn (he pins s σ H _ I h) fun v s1 ⟨x, H1, I1, r1, q1⟩ => ?_)
  refine wpAny_Slice (thn (hl pins s1 σ H1 _ I1 q1) fun vl s2 ⟨l, H2, I2, pl, q2⟩ => thn (hu pins s2 σ H2 _ I2 q2) fun vu s3 ⟨u, H3, I3, pu, q3⟩ => ?_)
  rw [evalPart_none]
  refine wpAny_pure ?_
  have I4 : Inv X pins σ H3 { s3 with heap := s3.heap.push { cls := .type "slice", data := .fields #[vl, vu, .none] } } := I3.kept (t' := s3.toks) fun b ob q => Heap.get?_push_of_some _ q
  obtain ⟨T, id, hT, ht, hg⟩ := hr pins { s3 with heap := s3.heap.push { cls := .type "slice", data := .fields #[vl, vu, .none] } } σ H3 x v vl vu l u s3.heap.objs.size Q I4 r1 (Heap.IsSliceOf.new ..) pl pu q3
  show wpAny (model X.prog X.w) X.A (subscriptTail e (.Slice lo hi none p2) v (.ref s3.heap.objs.size)) (EP X pins σ Q) X.xe { s3 with heap := s3.heap.push { cls := .type "slice", data := .fields #[vl, vu, .none] } }
  exact tail_any (ops := [.ref s3.heap.objs.size, v]) ht hT hg (by with_unfolding_all rfl)
def cutV (xs : List V) (lo hi : Option Int) : List V := (xs.drop (HT.sIx xs.length 0 lo)).take (HT.sIx xs.length xs.length hi - HT.sIx xs.length 0 lo)
theorem cutV_length (xs : List V) (lo hi : Option Int) : (cutV xs lo hi).length ≤ xs.length := by
  unfold cutV
  rw [List.length_take, List.length_drop]
  omega
def rSlT (K : PySem.W.Frag) : V → Option Int → Option Int → Hp → VK → Prop := fun x lo hi H Q => ∃ a xs, x = .ref a ∧ SqT K H a xs ∧
  ¬ (HT.sIx xs.length 0 lo = 0 ∧ HT.sIx xs.length xs.length hi = xs.length) ∧ ∀ p, H p = none → Q (.ref p) (upd H p (.tup (cutV xs lo hi)))
theorem sl_tup : SlR X (rSlT X.K) := by
  intro pins s σ H x v vl vu lo hi sl Q I rx hs pl pu h
  obtain ⟨a, xs, rfl, hx, hw, q⟩ := h
  cases rx
  obtain ⟨its, r, ht, hz⟩ := I.tuple hx
  have hlen : its.toArray.size = xs.length := by rw [List.size_toArray]; exact r.length.symm
  refine ⟨"tuple", _, PyProof.Rows.slot_tuple_getitem.lookup, ht.typeIs, ?_⟩
  refine HT.getItem_tuple_cut ht hs pl pu (by rw [hlen]; exact hw) ?_ (by rw [hlen]; exact hz)
  rw [hlen]
  refine ⟨.ref s.heap.objs.size, _, I.laid (t' := s.toks) (o := .tup (cutV xs lo hi)) (fun b ob q => Heap.get?_push_of_some _ q) (Nat.le_refl _) ?_, rfl, q _ (I.hok.fresh (Nat.le_refl _))⟩
  exact ⟨Nat.le_trans (cutV_length xs lo hi) hz, _, (r.drop (HT.sIx xs.length 0 lo)).take (HT.sIx xs.length xs.length hi - HT.sIx xs.length 0 lo), TupD.new _ _⟩
def rCatT (K : PySem.W.Frag) : R2 := fun x y H Q => ∃ a b xs ys, x = .ref a ∧ y = .ref b ∧ SqT K H a xs ∧ SqT K H b ys ∧ xs ≠ [] ∧ xs.length + ys.length ≤ sizeLine ∧
  (ys = [] → Q (.ref a) H) ∧ (ys ≠ [] → ∀ p, H p = none → Q (.ref p) (upd H p (.tup (xs ++ ys))))
theorem Vals.nil_iff {xs : List V} {us : List Value} (r : Vals xs us) : us = [] ↔ xs = [] := by
  cases r with
  | nil => simp
  | cons _ _ => simp
theorem op_catT : OpR X (binaryOp .Add) (rCatT X.K) := by
  intro pins s σ H x y v u Q I rx ry h
  obtain ⟨a, b, xs, ys, rfl, rfl, ha, hb, hx, hz, q1, q2⟩ := h
  cases rx
  cases ry
  obtain ⟨its, r1, p1, _⟩ := I.tuple ha
  obtain ⟨its2, r2, p2, _⟩ := I.tuple hb
  refine HT.cat_tup p1 p2 (fun z => hx (r1.nil_iff.mp z)) (fun z => ⟨.ref a, H, I, rfl, q1 (r2.nil_iff.mp z)⟩) (fun z => ?_) (by rw [← r1.length, ← r2.length]; exact hz)
  refine ⟨.ref s.heap.objs.size, _, I.laid (t' := s.toks) (o := .tup (xs ++ ys)) (fun b ob q => Heap.get?_push_of_some _ q) (Nat.le_refl _) ?_, rfl, q2 (fun w => z (r2.nil_iff.mpr w)) _ (I.hok.fresh (Nat.le_refl _))⟩
  exact ⟨by rw [List.length_append]; exact hz, _, r1.append r2, TupD.new _ _⟩
end
end L2
namespace L2
open PySem PySem.Spec PyProof.Rows
def ixN (n : Nat) (i : Int) : Option Nat := if 0 ≤ i then (if i < n then some i.toNat else none) else if -(n : Int) ≤ i then some (i + n).toNat else none
def atI {α : Type} (xs : List α) (i : Int) : Option α := (ixN xs.length i).bind fun j => xs[j]?
theorem ixN_seq {n : Nat} {i : Int} {j : Nat} (h : ixN n i = some j) : seqIndex? i n = some j ∧ j < n ∧ -(n : Int) ≤ i ∧ i < n := by
  unfold ixN at h
  by_cases h0 : 0 ≤ i
  · rw [if_pos h0] at h
    by_cases h1 : i < n
    · rw [if_pos h1] at h
      have e : i.toNat = j := Option.some.inj h
      exact ⟨by rw [seqIndex_of h0 h1, e], by omega, by omega, h1⟩
    · rw [if_neg h1] at h; cases h
  · rw [if_neg h0] at h
    by_cases h1 : -(n : Int) ≤ i
    · rw [if_pos h1] at h
      have e : (i + n).toNat = j := Option.some.inj h
      exact ⟨by rw [seqIndex_neg (by omega) h1, e], by omega, h1, by omega⟩
    · rw [if_neg h1] at h; cases h
theorem atI_get {α : Type} {xs : List α} {i : Int} {v : α} (h : atI xs i = some v) : ∃ j, seqIndex? i xs.length = some j ∧ xs[j]? = some v ∧ j < xs.length ∧ -(xs.length : Int) ≤ i ∧ i < xs.length := by
  unfold atI at h
  cases e : ixN xs.length i with
  | none => rw [e] at h; cases h
  | some j =>
    rw [e] at h
    obtain ⟨h1, h2, h3, h4⟩ := ixN_seq e
    exact ⟨j, h1, h, h2, h3, h4⟩
def PlainIx (b : Expr) : Prop := ∀ o i, subscripted b false o i = operate [o, i] (getItem o i)
def IxR (X : Cx) (r : R2) : Prop :=
  ∀ (value slice : Expr) (pins : List (Addr × Obj)) (s : Shared) (σ : St) (H : Hp) (x y : V) (v u : Value) (Q : VK), Inv X pins σ H s → RelV x v → RelV y u → r x y H Q →
    subscripted slice false v u = operate [v, u] (getItem v u) → wpAny (model X.prog X.w) X.A (subscriptTail value slice v u) (EP X pins σ Q) X.xe s
def MtR (X : Cx) (id : String) (r : V → List V → Hp → VK → Prop) : Prop :=
  ∀ (pins : List (Addr × Obj)) (s : Shared) (σ : St) (H : Hp) (x : V) (xs : List V) (v : Value) (us : List Value) (Q : VK), Inv X pins σ H s → RelV x v → Vals xs us → r x xs H Q →
    wpAny (model X.prog X.w) X.A (call (.builtin id) (v :: us)) (EP X pins σ Q) X.xe s
section
variable {X : Cx} {a b : Expr} {ta tb : TE} {pos : Pos}
theorem IxR.or {r r' : R2} (h : IxR X r) (h' : IxR X r') : IxR X (fun x y H Q => r x y H Q ∨ r' x y H Q) := by
  intro value slice pins s σ H x y v u Q I rx ry q hs
  rcases q with q | q
  · exact h value slice pins s σ H x y v u Q I rx ry q hs
  · exact h' value slice pins s σ H x y v u Q I rx ry q hs
theorem MtR.or {id : String} {r r' : V → List V → Hp → VK → Prop} (h : MtR X id r) (h' : MtR X id r') : MtR X id (fun x xs H Q => r x xs H Q ∨ r' x xs H Q) := by
  intro pins s σ H x xs v us Q I rx rs q
  rcases q with q | q
  · exact h pins s σ H x xs v us Q I rx rs q
  · exact h' pins s σ H x xs v us Q I rx rs q
theorem pe_ix {r : R2} (hr : IxR X r) (ha : PE X a ta) (hb : PE X b tb) (hs : PlainIx b) : PE X (.Subscript a b pos) (tOp r ta tb) := by
  intro pins s σ H Q I h
  exact Subscript_ (binT ha hb I h fun v u s2 x y H2 I2 rx ry q => hr a b pins s2 σ H2 x y v u Q I2 rx ry q (hs _ _))
def rIxL (K : PySem.W.Frag) : R2 := fun x y H Q => ∃ p xs i v, x = .ref p ∧ y = .int i ∧ SqL K H p xs ∧ atI xs i = some v ∧ Q v H
def rIxT (K : PySem.W.Frag) : R2 := fun x y H Q => ∃ p xs i v, x = .ref p ∧ y = .int i ∧ SqT K H p xs ∧ atI xs i = some v ∧ Q v H
def rIxS : R2 := fun x y H Q => ∃ z i c, x = .str z ∧ y = .int i ∧ z.length ≤ sizeLine ∧ atI z.cps.toList i = some c ∧ Q (.str ⟨#[c]⟩) H
theorem ix_list : IxR X (rIxL X.K) := by
  intro value slice pins s σ H x y v u Q I rx ry h hs
  obtain ⟨p, xs, i, z, rfl, rfl, hq, he, q⟩ := h
  cases rx
  obtain ⟨t, rfl⟩ := ry
  obtain ⟨its, r, pl, hz⟩ := I.list hq
  obtain ⟨j, h1, h2, h3, h4, h5⟩ := atI_get he
  obtain ⟨w, ew, rw'⟩ := r.get h2
  have hl := r.length
  have hn := line63
  have fin : EP X pins σ Q w s := ⟨z, H, I, rw', q⟩
  by_cases h0 : 0 ≤ i
  · have hj : i.toNat = j := by
      rw [seqIndex_of h0 h5] at h1
      exact Option.some.inj h1
    exact item_listR pl.isList h0 (by omega) (by rw [hj]; simpa using ew) fin hs
  · have hj : (i + (its.toArray.size : Int)).toNat = j := by
      rw [seqIndex_neg (by omega) h4] at h1
      rw [List.size_toArray, ← hl]
      exact Option.some.inj h1
    exact subscriptTail_builtinR (x := w) pl.isList.typeIs slot_list_getitem.lookup
      (wpAny_getItem_list_neg (Q := fun r s' => r = w ∧ EP X pins σ Q r s') pl.isList (by omega) (by rw [List.size_toArray] <;> omega) (by omega) (by rw [hj]; simpa using ew) ⟨rfl, fin⟩) hs
theorem ix_tup : IxR X (rIxT X.K) := by
  intro value slice pins s σ H x y v u Q I rx ry h hs
  obtain ⟨p, xs, i, z, rfl, rfl, hq, he, q⟩ := h
  cases rx
  obtain ⟨t, rfl⟩ := ry
  obtain ⟨its, r, pl, hz⟩ := I.tuple hq
  obtain ⟨j, h1, h2, h3, h4, h5⟩ := atI_get he
  obtain ⟨w, ew, rw'⟩ := r.get h2
  have hl := r.length
  have hn := line63
  have fin : EP X pins σ Q w s := ⟨z, H, I, rw', q⟩
  exact subscriptTail_builtinR (x := w) pl.typeIs slot_tuple_getitem.lookup
    (getItem_tuple (j := j) (Q := fun r s' => r = w ∧ EP X pins σ Q r s') pl (by omega) (by omega) (by rw [List.size_toArray, ← hl]; exact h1) (by simpa using ew) ⟨rfl, fin⟩) hs
theorem ix_str : IxR X rIxS := by
  intro value slice pins s σ H x y v u Q I rx ry h hs
  obtain ⟨z, i, c, rfl, rfl, hz, he, q⟩ := h
  obtain ⟨t, rfl⟩ := rx
  obtain ⟨t', rfl⟩ := ry
  obtain ⟨j, h1, h2, h3, h4, h5⟩ := atI_get he
  have hl : z.cps.toList.length = z.length := by simp [Str.length]
  rw [hl] at h1 h4 h5
  have hn := line63
  exact tail_any (typeIs_str s z t) slot_str_getitem.lookup (getItem_str (c := c) (by
    have e1 : decide (i < -(2 ^ 63 : Int)) = false := decide_eq_false (by omega)
    have e2 : decide (i ≥ 2 ^ 63) = false := decide_eq_false (by omega)
    rw [e1, e2, Bool.or_false]) (by rw [h1]; simpa using h2) ⟨.str ⟨#[c]⟩, H, I.tok _, ⟨_, rfl⟩, q⟩) hs
def rIx (K : PySem.W.Frag) : R2 := fun x y H Q => rIxL K x y H Q ∨ rIxT K x y H Q ∨ rIxS x y H Q
theorem ix_seq : IxR X (rIx X.K) := ix_list.or (ix_tup.or ix_str)
theorem mapSeq_set (its : List Value) (n j : Nat) (u : Value) : Obj.mapSeq (·.setIfInBounds j u) { cls := .type "list", data := .seq its.toArray n } = { cls := .type "list", data := .seq (its.set j u).toArray n } := by
  simp [Obj.mapSeq]
theorem Inv.lst {pins : List (Addr × Obj)} {σ : St} {H : Hp} {s : Shared} {p : Addr} {xs : List V} (I : Inv X pins σ H s) (h : H p = some (.lst xs)) :
    ∃ (its : List Value) (n : Nat), Vals xs its ∧ s.heap.get? p = some { cls := .type "list", data := .seq its.toArray n } ∧ xs.length ≤ sizeLine := by
  obtain ⟨z, its, n, r, e⟩ := I.hok p _ h
  exact ⟨its, n, r, e, z⟩
theorem Inv.lstUpd {pins : List (Addr × Obj)} {σ : St} {H : Hp} {s : Shared} {p : Addr} {xs ys : List V} {its its' : List Value} {n n' : Nat} {f : Obj → Obj} (I : Inv X pins σ H s) (h : H p = some (.lst xs))
    (ho : s.heap.get? p = some { cls := .type "list", data := .seq its.toArray n }) (hf : f { cls := .type "list", data := .seq its.toArray n } = { cls := .type "list", data := .seq its'.toArray n' }) (r : Vals ys its') (hz : ys.length ≤ sizeLine) (t : Nat) :
    Inv X pins σ (upd H p (.lst ys)) { s with heap := s.heap.update p f, toks := t } := by
  have e : (s.heap.update p f).get? p = some { cls := .type "list", data := .seq its'.toArray n' } := by
    rw [Heap.get?_update_self f ho (by rw [hf] <;> rfl), hf]
  refine I.write (x := p) (e := p) (by rw [h]; trivial) (.inl rfl) (fun b u hb q => (Heap.get?_update_other _ _ (Ne.symm hb)).trans q) ⟨_, e⟩ ?_
  exact ⟨hz, its', n', r, e⟩
def rSetL : V → V → V → Hp → (Hp → Prop) → Prop := fun o i v H Q => ∃ p xs k j, o = .ref p ∧ i = .int k ∧ H p = some (.lst xs) ∧ ixN xs.length k = some j ∧ Q (upd H p (.lst (xs.set j v)))
theorem set_list : PSet X rSetL := by
  intro pins s σ H o i v ov iv u Q I ro ri rv h
  obtain ⟨p, xs, k, j, rfl, rfl, hp, hj, q⟩ := h
  cases ro
  obtain ⟨t, rfl⟩ := ri
  obtain ⟨its, n, r, ho, hz⟩ := I.lst hp
  obtain ⟨h1, h2, h3, h4⟩ := ixN_seq hj
  have hl := r.length
  have hn := line63
  have I' : Inv X pins σ (upd H p (.lst (xs.set j v))) { s with heap := s.heap.update p (Obj.mapSeq (·.setIfInBounds j u)) } :=
    I.lstUpd hp ho (mapSeq_set its n j u) (r.set rv j) (by rw [List.length_set]; exact hz) s.toks
  by_cases h0 : 0 ≤ k
  · have hk : k.toNat = j := by
      rw [seqIndex_of h0 h4] at h1
      exact Option.some.inj h1
    exact PySem.W.ki_setAt ho h0 (by omega) (by rw [List.size_toArray, ← hl]; exact h4) (by rw [hk]; exact ⟨_, I', q⟩)
  · have hk : (k + (its.toArray.size : Int)).toNat = j := by
      rw [seqIndex_neg (by omega) h3] at h1
      rw [List.size_toArray, ← hl]
      exact Option.some.inj h1
    exact PySem.W.ki_setBack ho (by omega) (by rw [List.size_toArray, ← hl]; exact h3) (by omega) (by rw [hk]; exact ⟨_, I', q⟩)
theorem slice_bounds (lo hi : Option Int) (n : Nat) : (sliceBounds lo hi none n).1 = ((HT.sIx n 0 lo : Nat) : Int) ∧ (sliceBounds lo hi none n).2.1 = ((HT.sIx n n hi : Nat) : Int) ∧ (sliceBounds lo hi none n).2.2 = 1 := by
  refine ⟨?_, ?_, rfl⟩
  · cases lo with
    | none => simp [sliceBounds, HT.sIx]
    | some i =>
      simp only [sliceBounds, HT.sIx, Option.getD_none, show (1 : Int) > 0 by decide, if_true]
      by_cases h : i < 0
      · simp only [h, if_true] <;> omega
      · simp only [h, if_false] <;> omega
  · cases hi with
    | none => simp [sliceBounds, HT.sIx]
    | some i =>
      simp only [sliceBounds, HT.sIx, Option.getD_none, show (1 : Int) > 0 by decide, if_true]
      by_cases h : i < 0
      · simp only [h, if_true] <;> omega
      · simp only [h, if_false] <;> omega
theorem slicePick_cut (its : List Value) (lo hi : Option Int) : slicePick its.toArray lo hi none = ((its.drop (HT.sIx its.length 0 lo)).take (HT.sIx its.length its.length hi - HT.sIx its.length 0 lo)).toArray := by
  obtain ⟨h1, h2, h3⟩ := slice_bounds lo hi its.toArray.size
  unfold slicePick
  rw [h1, h2, h3]
  simp only [sliceRange_one, pick_run, List.size_toArray] <;> rfl
def rSlL (K : PySem.W.Frag) : V → Option Int → Option Int → Hp → VK → Prop := fun x lo hi H Q => ∃ a xs, x = .ref a ∧ SqL K H a xs ∧ ∀ p, H p = none → Q (.ref p) (upd H p (.lst (cutV xs lo hi)))
theorem sl_list : SlR X (rSlL X.K) := by
  intro pins s σ H x v vl vu lo hi sl Q I rx hs pl pu h
  obtain ⟨a, xs, rfl, hx, q⟩ := h
  cases rx
  obtain ⟨its, r, ht, hz⟩ := I.list hx
  have hlen := r.length
  refine ⟨"list", _, slot_list_getitem.lookup, ht.isList.typeIs, ?_⟩
  refine wpAny_getItem_list_slice ht.isList hs pl pu .none (by simp) ?_ (by rw [List.size_toArray] <;> omega)
  rw [slicePick_cut, ← hlen]
  refine ⟨.ref s.heap.objs.size, _, I.laid (t' := s.toks) (o := .lst (cutV xs lo hi)) (fun b ob q => Heap.get?_push_of_some _ q) (Nat.le_refl _) ?_, rfl, q _ (I.hok.fresh (Nat.le_refl _))⟩
  exact ⟨Nat.le_trans (cutV_length xs lo hi) hz, _, 0, (r.drop (HT.sIx xs.length 0 lo)).take (HT.sIx xs.length xs.length hi - HT.sIx xs.length 0 lo), Heap.get?_push_size _ rfl⟩
def flatV : V → Bool
  | .non => true
  | .bl _ => true
  | .int _ => true
  | .str _ => true
  | _ => false
def eqV : V → V → Bool
  | .non, .non => true
  | .bl a, .bl b => a == b
  | .bl a, .int b => (if a then 1 else 0) == b
  | .int a, .bl b => a == (if b then 1 else 0)
  | .int a, .int b => a == b
  | .str a, .str b => a == b
  | _, _ => false
theorem eqAt_V {A : Around} {s : Shared} {y x : V} {u v : Value} (ry : RelV y u) (rx : RelV x v) (fy : flatV y = true) (fx : flatV x = true) : SeqAt.EqAt A s u v (eqV y x) := by
  cases y with
  | non =>
    cases ry
    cases x with
    | non => cases rx; exact SeqAt.EqAt.same _
    | bl b => cases rx; exact SeqAt.EqAt.none_bool b
    | int b => obtain ⟨t, rfl⟩ := rx; exact SeqAt.EqAt.none_int b t
    | str b => obtain ⟨t, rfl⟩ := rx; exact SeqAt.EqAt.none_str b t
    | _ => exact absurd (show false = true from fx) Bool.false_ne_true
  | bl a =>
    cases ry
    cases x with
    | non => cases rx; exact SeqAt.EqAt.bool_none a
    | bl b => cases rx; exact SeqAt.EqAt.bool_bool a b
    | int b => obtain ⟨t, rfl⟩ := rx; exact SeqAt.EqAt.bool_int a b t
    | str b => obtain ⟨t, rfl⟩ := rx; exact SeqAt.EqAt.bool_str a b t
    | _ => exact absurd (show false = true from fx) Bool.false_ne_true
  | int a =>
    obtain ⟨t', rfl⟩ := ry
    cases x with
    | non => cases rx; exact SeqAt.EqAt.int_none a t'
    | bl b => cases rx; exact SeqAt.EqAt.int_bool a t' b
    | int b => obtain ⟨t, rfl⟩ := rx; exact SeqAt.EqAt.int_int a t' b t
    | str b => obtain ⟨t, rfl⟩ := rx; exact SeqAt.EqAt.int_str a t' b t
    | _ => exact absurd (show false = true from fx) Bool.false_ne_true
  | str a =>
    obtain ⟨t', rfl⟩ := ry
    cases x with
    | non => cases rx; exact SeqAt.EqAt.str_none a t'
    | bl b => cases rx; exact SeqAt.EqAt.str_bool a t' b
    | int b => obtain ⟨t, rfl⟩ := rx; exact SeqAt.EqAt.str_int a t' b t
    | str b => obtain ⟨t, rfl⟩ := rx; exact SeqAt.EqAt.str_str a t' b t
    | _ => exact absurd (show false = true from fx) Bool.false_ne_true
  | _ => exact absurd (show false = true from fy) Bool.false_ne_true
def eqU (x : V) (u : Value) : Bool := match u with
  | .none => eqV .non x
  | .bool b => eqV (.bl b) x
  | .int i _ => eqV (.int i) x
  | .str z _ => eqV (.str z) x
  | _ => false
theorem eqU_of {x y : V} {u : Value} (r : RelV y u) (f : flatV y = true) : eqU x u = eqV y x := by
  cases y with
  | non => cases r; rfl
  | bl b => cases r; rfl
  | int i => obtain ⟨t, rfl⟩ := r; rfl
  | str z => obtain ⟨t, rfl⟩ := r; rfl
  | _ => exact absurd (show false = true from f) Bool.false_ne_true
theorem any_eqU {x : V} : ∀ {xs : List V} {us : List Value}, Vals xs us → xs.all flatV = true → us.any (eqU x) = xs.any fun y => eqV y x
  | _, _, .nil, _ => rfl
  | y :: xs, u :: us, .cons r t, f => by
    rw [List.all_cons, Bool.and_eq_true] at f
    rw [List.any_cons, List.any_cons, eqU_of r f.1, any_eqU t f.2]
theorem mem_eqAt {A : Around} {s : Shared} {x : V} {v : Value} (rx : RelV x v) (fx : flatV x = true) : ∀ {xs : List V} {us : List Value}, Vals xs us → xs.all flatV = true → ∀ u ∈ us, SeqAt.EqAt A s u v (eqU x u)
  | _, _, .nil, _ => fun u hu => by cases hu
  | y :: xs, u :: us, .cons r t, f => fun u' hu => by
    rw [List.all_cons, Bool.and_eq_true] at f
    rcases List.mem_cons.mp hu with rfl | hu
    · rw [eqU_of r f.1]; exact eqAt_V r rx f.1 fx
    · exact mem_eqAt rx fx t f.2 u' hu
def inV (x : V) (xs : List V) : Bool := xs.any fun y => eqV y x
def rIn (K : PySem.W.Frag) (neg : Bool) : R2 := fun x y H Q => ∃ p xs, y = .ref p ∧ (SqL K H p xs ∨ SqT K H p xs) ∧ flatV x = true ∧ xs.all flatV = true ∧ Q (.bl (if neg then !inV x xs else inV x xs)) H
theorem op_in_seq : OpR X (compareOp .In) (rIn X.K false) := by
  intro pins s σ H x y v u Q I rx ry h
  obtain ⟨p, xs, rfl, hq, fx, fs, q⟩ := h
  cases ry
  rcases hq with hq | hq
  · obtain ⟨its, r, pl, hz⟩ := I.list hq
    refine SeqAt.in_listAt (eqU x) pl.isList (fun w hw => mem_eqAt rx fx r fs w (by simpa using hw)) ⟨.bl _, H, I, rfl, ?_⟩
    rw [show its.toArray.any (eqU x) = its.any (eqU x) by simp, any_eqU r fs]
    exact q
  · obtain ⟨its, r, pl, hz⟩ := I.tuple hq
    refine SeqAt.in_tupleAt (eqU x) pl (fun w hw => mem_eqAt rx fx r fs w (by simpa using hw)) ⟨.bl _, H, I, rfl, ?_⟩
    rw [show its.toArray.any (eqU x) = its.any (eqU x) by simp, any_eqU r fs]
    exact q
theorem CallR.or {f : Value} {r r' : List V → Hp → VK → Prop} (h : CallR X f r) (h' : CallR X f r') : CallR X f (fun xs H Q => r xs H Q ∨ r' xs H Q) := by
  intro pins s σ H xs us Q I rs q
  rcases q with q | q
  · exact h pins s σ H xs us Q I rs q
  · exact h' pins s σ H xs us Q I rs q
theorem call_list_of : CallR X (.type "list") (fun xs H Q => ∃ p ys, xs = [.ref p] ∧ (SqL X.K H p ys ∨ SqT X.K H p ys) ∧ ∀ l, H l = none → Q (.ref l) (upd H l (.lst ys))) := by
  intro pins s σ H xs us Q I r h
  obtain ⟨p, ys, rfl, hq, q⟩ := h
  obtain ⟨u, rfl, rx⟩ := vals1 r
  cases rx
  have fin : ∀ (its : List Value), Vals ys its → ys.length ≤ sizeLine → ∀ (h' : Heap) (c' : Nat), (∀ b o', s.heap.get? b = some o' → h'.get? b = some o') →
      h'.get? s.heap.objs.size = some { cls := .type "list", dict := none, data := .seq its.toArray c', slots := #[] } → EP X pins σ Q (.ref s.heap.objs.size) { s with heap := h' } := fun its r' hz h' c' kp e =>
    ⟨.ref s.heap.objs.size, _, I.laid (t' := s.toks) kp (Nat.le_refl _) (show ObjOk X.prog X.w _ h' _ (.lst ys) from ⟨hz, its, c', r', e⟩), rfl, q _ (I.hok.fresh (Nat.le_refl _))⟩
  rcases hq with hq | hq
  · obtain ⟨its, r', pl, hz⟩ := I.list hq
    have hlen := r'.length
    obtain ⟨o, ho, hc, n, hd⟩ := pl.isList
    exact call_list_seq p (.inl rfl) ho hc hd (fun h' c' kp e => fin its r' hz h' c' kp e) (by simp only [List.size_toArray] <;> omega)
  · obtain ⟨its, r', pl, hz⟩ := I.tuple hq
    have hlen := r'.length
    obtain ⟨o, ho, hc, n, hd⟩ := pl
    exact call_list_seq p (.inr rfl) ho hc hd (fun h' c' kp e => fin its r' hz h' c' kp e) (by simp only [List.size_toArray] <;> omega)
theorem call_tuple_of : CallR X (.type "tuple") (fun xs H Q => ∃ p ys, xs = [.ref p] ∧ ((SqL X.K H p ys ∧ ∀ l, H l = none → Q (.ref l) (upd H l (.tup ys))) ∨ (SqT X.K H p ys ∧ Q (.ref p) H))) := by
  intro pins s σ H xs us Q I r h
  obtain ⟨p, ys, rfl, h⟩ := h
  obtain ⟨u, rfl, rx⟩ := vals1 r
  cases rx
  rcases h with ⟨hq, q⟩ | ⟨hq, q⟩
  · obtain ⟨its, r', pl, hz⟩ := I.list hq
    have hlen := r'.length
    refine call_tuple_list pl.isList (fun h' kp => ?_) (by simp only [List.size_toArray] <;> omega)
    have I1 : Inv X pins σ H { s with heap := h' } := I.kept (t' := s.toks) kp
    have I2 : Inv X pins σ (upd H h'.objs.size (.tup ys)) { s with heap := h'.push { cls := .type "tuple", data := .seq its.toArray } } :=
      I1.laid (t' := s.toks) (fun b o e => Heap.get?_push_of_some _ e) (Nat.le_refl _) (show ObjOk X.prog X.w _ _ _ (.tup ys) from ⟨hz, its, r', TupD.new _ _⟩)
    exact ⟨.ref h'.objs.size, _, I2, rfl, q _ (I1.hok.fresh (Nat.le_refl _))⟩
  · obtain ⟨its, r', pl, hz⟩ := I.tuple hq
    exact call_tuple_same pl ⟨.ref p, H, I, rfl, q⟩
def tyV (K : PySem.W.Frag) (T : String) (x : V) (H : Hp) : Prop := match x with
  | .str _ => T = "str"
  | .int _ => T = "int"
  | .ref p => (T = "list" ∧ ∃ xs, SqL K H p xs) ∨ (T = "tuple" ∧ ∃ o, K.lookup p = some o ∧ o.cls = .type "tuple" ∧ o.dict = none) ∨
      (T = "dict" ∧ ((∃ kvs, H p = some (.dK kvs)) ∨ ∃ kvs, H p = some (.dT kvs))) ∨ (T = "set" ∧ ∃ S n, H p = some (.set S n))
  | _ => False
theorem tyV_is {pins : List (Addr × Obj)} {σ : St} {H : Hp} {s : Shared} {T : String} {x : V} {v : Value} (I : Inv X pins σ H s) (r : RelV x v) (ty : tyV X.K T x H) :
    s.TypeIs v T ∧ ∀ a, v = .ref a → ∃ ob, s.heap.get? a = some ob ∧ ob.dict = none := by
  cases x with
  | str z =>
    obtain ⟨t, rfl⟩ := r
    cases (show T = "str" from ty)
    exact ⟨typeIs_str s z t, fun _ e => nomatch e⟩
  | int i =>
    obtain ⟨t, rfl⟩ := r
    cases (show T = "int" from ty)
    exact ⟨typeIs_int s i t, fun _ e => nomatch e⟩
  | ref p =>
    cases r
    rcases ty with ⟨rfl, xs, hq⟩ | ⟨rfl, o, hk, hc, hd⟩ | ⟨rfl, hk⟩ | ⟨rfl, S, n, hk⟩
    · obtain ⟨its, _, pl, _⟩ := I.list hq
      refine ⟨pl.isList.typeIs, fun a e => ?_⟩
      cases e
      obtain ⟨o, n, e, c, hd, _⟩ := pl
      exact ⟨o, e, hd⟩
    · refine ⟨⟨o, I.kIn p o hk, hc⟩, fun a e => ?_⟩
      cases e
      exact ⟨o, I.kIn _ o hk, hd⟩
    · have z : ∃ o, s.heap.get? p = some o ∧ o.ExactDict := by
        rcases hk with ⟨kvs, hk⟩ | ⟨kvs, hk⟩
        · obtain ⟨_, _, _, _, o, _, _, e, ex, _⟩ := I.hok p _ hk
          exact ⟨o, e, ex⟩
        · obtain ⟨_, _, _, _, o, _, _, e, ex, _⟩ := I.hok p _ hk
          exact ⟨o, e, ex⟩
      obtain ⟨o, e, ex⟩ := z
      refine ⟨⟨o, e, ex.1⟩, fun a e2 => ?_⟩
      cases e2
      exact ⟨o, e, ex.2.1⟩
    · obtain ⟨o, _, _, _, e, ex, _⟩ := I.hok p _ hk
      refine ⟨⟨o, e, ex.1⟩, fun a e2 => ?_⟩
      cases e2
      exact ⟨o, e, ex.2.1⟩
  | _ => exact False.elim ty
abbrev tBM0 (K : PySem.W.Frag) (T : String) (r : V → List V → Hp → VK → Prop) (to : TE) : TE := fun σ H Q => to σ H fun x H1 => tyV K T x H1 ∧ r x [] H1 Q
abbrev tBM (K : PySem.W.Frag) (T : String) (r : V → List V → Hp → VK → Prop) (to : TE) (t : TA) : TE := fun σ H Q => to σ H fun x H1 => tyV K T x H1 ∧ t σ H1 fun xs H2 => r x xs H2 Q
variable {o e : Expr} {es : List Expr} {to : TE} {t : TA} {name : Str} {apos cpos : Pos} {T id : String} {r : V → List V → Hp → VK → Prop}
theorem pe_bm0 (pa : PlainAttrs T) (slot : Slot T name id) (hty : typeOf (.builtin id) = pure (.type "method_descriptor")) (hm : MtR X id r) (ho : PE X o to)
    (hbase : attributeBase o name X.env (eval o X.env) = eval o X.env := by rfl) (hline : (apos.endLine == cpos.line) = true := by rfl) : PE X (.Call (.Attribute o name apos) [] [] cpos) (tBM0 X.K T r to) := by
  intro pins s σ H Q I h
  refine wpAny_Call_method0_late hbase hline (thn (ho pins s σ H _ I h) fun v s1 ⟨x, H1, I1, r1, ty, q1⟩ => ?_)
  obtain ⟨h1, h2⟩ := tyV_is I1 r1 ty
  exact ⟨T, id, pa, slot, hty, h1, h2, Calls.callWith_builtin rfl (PySem.evalArgs_none (hm pins s1 σ H1 x [] v [] Q I1 r1 .nil q1))⟩
theorem pe_bm (pa : PlainAttrs T) (slot : Slot T name id) (hty : typeOf (.builtin id) = pure (.type "method_descriptor")) (hm : MtR X id r) (ho : PE X o to) (ha : PA X (e :: es) t)
    (hbase : attributeBase o name X.env (eval o X.env) = eval o X.env := by rfl)
    (hfew : ((backTo cpos (starEach (e :: es) X.env)).all (fun x => !x.1) && (backToKw cpos (keywordEach [] X.env)).all (fun x => x.1.isSome)
      && decide ((e :: es).length + ([] : List Keyword).length + (if ([] : List Keyword).isEmpty then 0 else 1) < 30)) = true := by rfl)
    (hline : (apos.endLine == cpos.line) = true := by rfl) (hs : starEach (e :: es) X.env = (false, eval e X.env) :: starEach es X.env := by rfl) (hplain : (backTo cpos (starEach es X.env)).any (·.1) = false := by rfl) :
    PE X (.Call (.Attribute o name apos) (e :: es) [] cpos) (tBM X.K T r to t) := by
  intro pins s σ H Q I h
  refine wpAny_Call_method_late hbase hfew hline rfl (thn (ho pins s σ H _ I h) fun v s1 ⟨x, H1, I1, r1, ty, q1⟩ => ?_)
  obtain ⟨h1, h2⟩ := tyV_is I1 r1 ty
  refine ⟨T, id, pa, slot, hty, h1, h2, ?_⟩
  have hA := ha cpos pins s1 σ H1 _ I1 q1
  rw [hs] at hA ⊢
  refine Calls.callWith_builtin (by show (false || (backTo cpos (starEach es X.env)).any (·.1)) = false; rw [hplain] <;> rfl) (Calls.evalArgs_plain ?_)
  exact thn hA fun us s2 ⟨vs, H2, I2, r2, q2⟩ => hm pins s2 σ H2 x vs v us Q I2 r1 r2 q2
end
end L2
namespace L2
open PySem PySem.Spec PyProof.Rows
def MtM (X : Cx) (id : String) (r : V → List V → Hp → VK → Prop) : Prop :=
  ∀ (pins : List (Addr × Obj)) (s : Shared) (σ : St) (H : Hp) (x : V) (xs : List V) (v : Value) (us : List Value) (Q : VK), Inv X pins σ H s → RelV x v → Vals xs us → r x xs H Q →
    wpAny (model X.prog X.w) X.A (call (.builtin id) (v :: us)) (EP X pins σ Q) X.xe s
theorem Vals.one : ∀ {x : V} {us : List Value}, Vals [x] us → ∃ u, us = [u] ∧ RelV x u
  | _, _, .cons r .nil => ⟨_, rfl, r⟩
theorem Vals.two : ∀ {x y : V} {us : List Value}, Vals [x, y] us → ∃ u v, us = [u, v] ∧ RelV x u ∧ RelV y v
  | _, _, _, .cons r (.cons q .nil) => ⟨_, _, rfl, r, q⟩
theorem Vals.zero : ∀ {us : List Value}, Vals [] us → us = []
  | _, .nil => rfl
theorem Vals.dropLast {xs : List V} {us : List Value} (h : Vals xs us) : Vals xs.dropLast us.dropLast := by
  induction h with
  | nil => exact .nil
  | cons r t ih =>
    cases t with
    | nil => exact .nil
    | cons q t' => exact .cons r ih
theorem Vals.eraseIdx : ∀ {xs : List V} {us : List Value} (i : Nat), Vals xs us → Vals (xs.eraseIdx i) (us.eraseIdx i)
  | _, _, _, .nil => .nil
  | _, _, 0, .cons _ t => t
  | _, _, i + 1, .cons r t => .cons r (Vals.eraseIdx i t)
theorem Vals.reverse {xs : List V} {us : List Value} (h : Vals xs us) : Vals xs.reverse us.reverse := by
  induction h with
  | nil => exact .nil
  | cons r t ih => rw [List.reverse_cons, List.reverse_cons]; exact Vals.append ih (.cons r .nil)
theorem Vals.rep {xs : List V} {us : List Value} (h : Vals xs us) : ∀ k : Nat, Vals (List.replicate k xs).flatten (List.replicate k us).flatten
  | 0 => .nil
  | k + 1 => by
    rw [List.replicate_succ, List.replicate_succ, List.flatten_cons, List.flatten_cons]
    exact Vals.append h (Vals.rep h k)
theorem erase_last {α : Type} (l : List α) : l.eraseIdx (l.length - 1) = l.dropLast := by
  induction l with
  | nil => rfl
  | cons a r ih =>
    cases r with
    | nil => rfl
    | cons b r =>
      have e : (a :: b :: r).length - 1 = ((b :: r).length - 1) + 1 := by
        have h1 : (a :: b :: r).length = r.length + 2 := rfl
        have h2 : (b :: r).length = r.length + 1 := rfl
        omega
      rw [e, List.eraseIdx_cons_succ, ih]
      all_goals rfl
theorem foldl_rep (its : List Value) : ∀ (k : Nat) (acc : List Value),
    List.foldl (fun x1 x2 => x1 ++ x2) acc.toArray (List.replicate k its.toArray) = (acc ++ (List.replicate k its).flatten).toArray
  | 0, acc => by simp
  | k + 1, acc => by
    have e : acc.toArray ++ its.toArray = (acc ++ its).toArray := by simp
    have e2 : (acc ++ its) ++ (List.replicate k its).flatten = acc ++ (List.replicate (k + 1) its).flatten := by
      rw [List.replicate_succ, List.flatten_cons, List.append_assoc]
    rw [← e2, ← foldl_rep its k (acc ++ its), ← e, List.replicate_succ, List.foldl_cons]
section
variable {X : Cx} {pins : List (Addr × Obj)} {σ : St} {H : Hp} {s : Shared} {l b : Addr} {xs ys zs : List V}
theorem Inv.lset {its its' : List Value} {n : Nat} {f : Array Value → Array Value} {t' : Nat} (I : Inv X pins σ H s) (hH : H l = some (.lst xs))
    (e : s.heap.get? l = some { cls := .type "list", data := .seq its.toArray n }) (hf : f its.toArray = its'.toArray) (hv : Vals ys its') (hz : ys.length ≤ sizeLine) :
    Inv X pins σ (upd H l (.lst ys)) { s with heap := s.heap.update l (Obj.mapSeq f), toks := t' } := by
  have q := PySem.IsL.update e f
  rw [hf] at q
  refine I.write (x := l) (e := l) (by rw [hH]; exact trivial) (.inl rfl) (fun b' u hb hu => (Heap.get?_update_other s.heap (Obj.mapSeq f) (Ne.symm hb)).trans hu) ⟨_, q⟩ ?_
  exact ⟨hz, its', _, hv, q⟩
theorem Inv.lnew {its : List Value} {t' : Nat} (I : Inv X pins σ H s) (hv : Vals ys its) (hz : ys.length ≤ sizeLine) :
    Inv X pins σ (upd H s.heap.objs.size (.lst ys)) { s with heap := s.heap.push { cls := .type "list", data := .seq its.toArray }, toks := t' } :=
  I.laid (fun _ _ q => Heap.get?_push_of_some _ q) (Nat.le_refl _) ⟨hz, its, 0, hv, Heap.get?_push_size _ rfl⟩
theorem Inv.fresh (I : Inv X pins σ H s) : H s.heap.objs.size = none := I.hok.fresh (Nat.le_refl _)
theorem Inv.lstM (I : Inv X pins σ H s) (hH : H l = some (.lst xs)) : xs.length ≤ sizeLine ∧ ∃ (its : List Value) (n : Nat), Vals xs its ∧ xs.length = its.length ∧ s.heap.get? l = some { cls := .type "list", data := .seq its.toArray n } := by
  obtain ⟨z, its, n, r, e⟩ := I.hok l _ hH
  exact ⟨z, its, n, r, r.length, e⟩
theorem notLongL {n : Nat} (h : n ≤ sizeLine) : Builtin.List.listTooLong n = false := by
  unfold Builtin.List.listTooLong
  exact decide_eq_false (by omega)
end
section
variable {X : Cx}
def rAppend : V → List V → Hp → VK → Prop := fun x vs H Q => ∃ l xs y, x = .ref l ∧ vs = [y] ∧ H l = some (.lst xs) ∧ xs.length < sizeLine ∧ Q .non (upd H l (.lst (xs ++ [y])))
theorem mt_append : MtM X "list.append" rAppend := by
  intro pins s σ H x vs v us Q I rx rv h
  obtain ⟨l, xs, y, rfl, rfl, hH, hz, q⟩ := h
  cases rx
  obtain ⟨u, rfl, ru⟩ := rv.one
  obtain ⟨z, its, n, r, hl, e⟩ := I.lstM hH
  refine call_meets F.slot_list_append ⟨_, e, rfl⟩ F.entry_list_append (F.args_list_append_2 _ _) (PySem.list_append l its.toArray n u (by rw [List.size_toArray]; omega)) ⟨e, ?_⟩
  refine ⟨.non, _, I.lset (its' := its ++ [u]) hH e (by simp) (r.append (.cons ru .nil)) ?_, rfl, q⟩
  rw [List.length_append, List.length_singleton]
  omega
def rExtend : V → List V → Hp → VK → Prop := fun x vs H Q => ∃ l b xs zs, x = .ref l ∧ vs = [.ref b] ∧ H l = some (.lst xs) ∧ H b = some (.lst zs) ∧ xs.length + zs.length ≤ sizeLine ∧ Q .non (upd H l (.lst (xs ++ zs)))
theorem mt_extend : MtM X "list.extend" rExtend := by
  intro pins s σ H x vs v us Q I rx rv h
  obtain ⟨l, b, xs, zs, rfl, rfl, hH, hB, hz, q⟩ := h
  cases rx
  obtain ⟨u, rfl, ru⟩ := rv.one
  cases ru
  obtain ⟨z, its, n, r, hl, e⟩ := I.lstM hH
  obtain ⟨z2, its2, n2, r2, hl2, e2⟩ := I.lstM hB
  have hsz : its.toArray.size + its2.toArray.size ≤ sizeLine := by rw [List.size_toArray, List.size_toArray]; omega
  have hlong : ¬ (!its.toArray.isEmpty && Builtin.List.listTooLong (its.toArray.size + its2.toArray.size)) = true := by
    rw [notLongL hsz, Bool.and_false]
    exact Bool.false_ne_true
  refine call_meets F.slot_list_extend ⟨_, e, rfl⟩ F.entry_list_extend (F.args_list_extend_2 _ _)
    (AutoSeq1.list_extend_list_list_0 l its.toArray n b its2.toArray n2 hlong (by rw [List.size_toArray]; omega) (by omega)) ⟨e, e2, ?_⟩
  refine ⟨.non, _, I.lset (its' := its ++ its2) hH e (by simp) (r.append r2) ?_, rfl, q⟩
  rw [List.length_append]
  omega
def rPop : V → List V → Hp → VK → Prop := fun x vs H Q => ∃ l xs y, x = .ref l ∧ vs = [] ∧ H l = some (.lst xs) ∧ xs[xs.length - 1]? = some y ∧ Q y (upd H l (.lst xs.dropLast))
theorem mt_pop : MtM X "list.pop" rPop := by
  intro pins s σ H x vs v us Q I rx rv h
  obtain ⟨l, xs, y, rfl, rfl, hH, hy, q⟩ := h
  cases rx
  have hus := rv.zero
  subst hus
  obtain ⟨z, its, n, r, hl, e⟩ := I.lstM hH
  obtain ⟨u, hu, ru⟩ := r.get hy
  have hy' : its.toArray[its.toArray.size - 1]? = some u := by
    show its.toArray[its.length - 1]? = some u
    rw [← Array.getElem?_toList, ← hl]
    exact hu
  refine call_meets F.slot_list_pop ⟨_, e, rfl⟩ F.entry_list_pop (F.args_list_pop_1 _) (MeetsSeq.list_pop_last l its.toArray n u hy' (by rw [List.size_toArray]; omega)) ⟨e, ?_⟩
  refine ⟨y, _, I.lset (its' := its.dropLast) hH e ?_ r.dropLast ?_, ru, q⟩
  · show its.toArray.eraseIdxIfInBounds (its.toArray.size - 1) = its.dropLast.toArray
    rw [List.size_toArray, List.eraseIdxIfInBounds_toArray, erase_last]
  · rw [List.length_dropLast]
    omega
def rCat : R2 := fun x y H Q => ∃ l b xs zs, x = .ref l ∧ y = .ref b ∧ H l = some (.lst xs) ∧ H b = some (.lst zs) ∧ xs.length + zs.length ≤ sizeLine ∧ ∀ p, H p = none → Q (.ref p) (upd H p (.lst (xs ++ zs)))
theorem op_cat : OpR X (binaryOp .Add) rCat := by
  intro pins s σ H x y v u Q I rx ry h
  obtain ⟨l, b, xs, zs, rfl, rfl, hH, hB, hz, q⟩ := h
  cases rx
  cases ry
  obtain ⟨z, its, n, r, hl, e⟩ := I.lstM hH
  obtain ⟨z2, its2, n2, r2, hl2, e2⟩ := I.lstM hB
  refine PySem.P.add_list e e2 ?_ (by rw [List.size_toArray, List.size_toArray]; omega)
  have ea : its.toArray ++ its2.toArray = (its ++ its2).toArray := by simp
  rw [ea]
  exact ⟨.ref _, _, I.lnew (t' := s.toks) (r.append r2) (by rw [List.length_append]; omega), rfl, q _ I.fresh⟩
def rRep : R2 := fun x y H Q => ∃ l k xs, x = .ref l ∧ y = .int k ∧ H l = some (.lst xs) ∧ -(2 ^ 63) ≤ k ∧ k < 2 ^ 63 ∧ xs.length * k.toNat ≤ sizeLine ∧
  ∀ p, H p = none → Q (.ref p) (upd H p (.lst (List.replicate k.toNat xs).flatten))
theorem len_rep {α : Type} (xs : List α) (k : Nat) : (List.replicate k xs).flatten.length = k * xs.length := by
  induction k with
  | zero => simp
  | succ k ih => rw [List.replicate_succ, List.flatten_cons, List.length_append, ih, Nat.succ_mul, Nat.add_comm]
theorem op_rep : OpR X (binaryOp .Mult) rRep := by
  intro pins s σ H x y v u Q I rx ry h
  obtain ⟨l, k, xs, rfl, rfl, hH, h1, h2, hz, q⟩ := h
  cases rx
  obtain ⟨t, rfl⟩ := ry
  obtain ⟨z, its, n, r, hl, e⟩ := I.lstM hH
  have hlen : its.toArray.size * k.toNat ≤ sizeLine := by rw [List.size_toArray, ← hl]; exact hz
  have hcap : ¬ its.toArray.size * k.toNat > (2 ^ 63 - 1) / 8 := by
    have : (sizeLine : Nat) ≤ (2 ^ 63 - 1) / 8 := by decide
    omega
  have hfit : ¬ (!Builtin.List.listFitsIndex k) = true := by
    rw [fitsIndex_both h1 h2]
    exact Bool.false_ne_true
  have hlong : ¬ Builtin.List.listTooLong (its.toArray.size * k.toNat) = true := by
    rw [notLongL hlen]
    exact Bool.false_ne_true
  have hnew : List.foldl (fun x1 x2 => x1 ++ x2) #[] (List.replicate (if its.toArray.isEmpty = true then 0 else k.toNat) its.toArray) = (List.replicate k.toNat its).flatten.toArray := by
    have f0 : ∀ m : Nat, List.foldl (fun x1 x2 => x1 ++ x2) #[] (List.replicate m its.toArray) = (List.replicate m its).flatten.toArray := fun m => by
      have := foldl_rep its m []
      rw [List.nil_append] at this
      exact this
    rw [f0]
    cases its with
    | nil => simp
    | cons a r' => rw [if_neg (by simp)]
  refine wpAny_binaryOp_repeat_ref (T := "list") (U := "int") (by decide) ⟨_, e, rfl⟩ (fun s' => typeIs_int s' k t) noFill_list_mul F.fills_int_mul F.slot_int_rmul repeat_list F.slot_int_index.lookup
    (call_meets F.slot_int_rmul (typeIs_int s k t) F.entry_int_rmul (F.args_int_rmul_2 _ _) (int___rmul___int_list k t l its.toArray n)
      ⟨e, rfl, ⟨_, e, rfl⟩, call_meets F.slot_list_mul ⟨_, e, rfl⟩ F.entry_list_mul (F.args_list_mul_2 _ _) (AutoListH.list___mul___list_int_3 l its.toArray n k t hfit hcap hlong) ⟨e, ?_⟩⟩)
  rw [hnew]
  exact ⟨.ref _, _, I.lnew (t' := s.toks) (r.rep k.toNat) (by rw [len_rep, Nat.mul_comm]; exact hz), rfl, q _ I.fresh⟩
end
section
variable {prog : Program} {w : World} {A : Around} {E : Value → Shared → Prop} {s : Shared}
end
section
variable {X : Cx}
end
end L2
namespace Att
open PySem PySem.W PySem.Calls PyProof.Rows
theorem ints_of_wellAll {P : Params} {h : Heap} : ∀ (ns : List Int) (vs : List Value), WellAll P h vs (ns.map WData.int) → IntsAre vs ns := by
  intro ns
  induction ns with
  | nil =>
    intro vs w
    rw [List.map_nil] at w
    cases w
    exact .nil
  | cons n ns ih =>
    intro vs w
    rw [List.map_cons] at w
    cases w with
    | cons a b =>
      cases a
      exact .cons _ _ (ih _ b)
theorem script_of {l : OpenLaw} {n : Nat} (hn : l.most = some n) {P : Params} {h : Heap} {args : List WData} {vals : List Value}
    (hpre : l.row.toRowW.claim.pre args = true) (hwl : WellAll P h vals args) :
    ∃ a vs ns, vals = [Value.ref a] ∧ args = [WData.list (ns.map WData.int)] ∧ h.get? a = some { cls := .type "list", data := .seq vs.toArray } ∧ IntsAre vs ns ∧ ns.length ≤ n := by
  have hsh : WShape.hasAll [] args [.list .int] = true := (pre_splitW hpre).1
  have hc : l.pre.holds [] { args := args } = true := (pre_splitW hpre).2
  obtain ⟨d, r, rfl, h1, h2⟩ := hasAllW_cons hsh
  obtain rfl := hasAllW_nil h2
  obtain ⟨xs, rfl, h3⟩ := hasW_list h1
  obtain ⟨ns, rfl⟩ := items_int h3
  have hlen : ns.length ≤ n := by
    unfold OpenLaw.pre at hc
    have h4 : (WTm.not (.lt (.lit (.int (n : Int))) (.len (.arg 0)))).holds [] { args := [.list (ns.map .int)] } = true := by
      have h4 := (holds_andW hc).1
      rw [hn] at h4
      exact h4
    have h5 := condW_of h4 (w_not (w_lt w_lit (w_len_list (w_arg rfl))))
    rw [List.length_map] at h5
    refine Nat.le_of_not_lt fun q => ?_
    have q' : (n : Int) < ((ns.length : Nat) : Int) := by omega
    first
      | (rw [decide_eq_true q'] at h5; exact absurd h5 (by decide))
      | (simp at h5; omega)
  cases hwl with
  | cons w1 w2 =>
    cases w2
    cases w1 with
    | list ho hall => exact ⟨_, _, ns, rfl, rfl, ho, ints_of_wellAll ns _ hall, hlen⟩
theorem post_true (l : OpenLaw) (args : List WData) : l.row.toRowW.claim.post args (.bool true) args = true :=
  postW_of (r := l.row.toRowW) (X := (true == true))
    (show WShape.has [] (.bool true) .bool = true by first | rfl | decide | simp [WShape.has, WShape.arms, WShape.armsAll])
    (show (WTm.eq .res (.lit (.bool true))).value [] { args := args, res := some (.bool true), after := args } = some (.bool (true == true)) from w_eq_bool (w_res rfl) w_lit) rfl
theorem attach_call {l : OpenLaw} {n : Nat} {q : Program} {loose : List Str} {XP : (Str → Option Value) → Heap → Prop} {YP : World → Heap → Prop} {d : DefRec}
    (hn : l.most = some n) (hdf : d.params.defaults = [])
    (call : ∀ (w : World) (s₀ s₁ : Shared) (mg mb : Str → Option Value) (fa : Addr) (o : Obj) (pm cd doc : Value) (a : Addr) (vs : List Value) (ns : List Int),
      Ground q loose [] XP w s₀ mg mb s₁.heap → YP w s₁.heap →
      s₁.heap.get? fa = some o → o.data = .func (docDef d.name d.params d.body d.scope pm cd doc) → s₁.heap.CodeRec cd d.name → mg d.name = some (.ref fa) →
      s₁.heap.get? a = some { cls := .type "list", data := .seq vs.toArray } → IntsAre vs ns → ns.length ≤ n → s₁.gens = #[] →
      codeAny (model l.prog w) callerA (.call (.ref fa) ⟨[.ref a], []⟩) (fun r s' => r = .ok (.ret (.bool true)) ∧ OldK s₁.heap s'.heap ∧ s'.os = s₁.os ∧ AllBare s'.gens) s₁) :
    WalkO q loose XP YP l.row.toRowW d [] (fun f vs => PySem.call f vs) := by
  intro w s₀ s₁ mg mb G Y fa o pm cd doc dV kV ho hd hcd hD hmg hg args vals as hpre hlay hrd hwl hlo
  obtain rfl : dV = .none := Dflts.none hD hdf
  obtain rfl : kV = .none := Dflts.noKw hD
  obtain ⟨a, vs, ns, rfl, rfl, hobj, hints, hlen⟩ := script_of hn hpre hwl
  refine enter_call (codeAny_mono (call w s₀ s₁ mg mb fa o pm cd doc a vs ns G Y ho (fd_plain hd) hcd hmg hobj hints hlen hg) fun r s' hq => ?_)
  obtain ⟨rfl, h2, h3, h4⟩ := hq
  exact ⟨.inl ⟨.bool true, .bool true, [], rfl, fun _ => rfl, .bool true, post_true l _, fun _ => ⟨List.Pairwise.nil, fun _ hm => (nomatch hm)⟩⟩, h2, h3, h4⟩
section
variable {prog : Program} {w : World} {A : Around} {E : Value → Shared → Prop} {s : Shared} {K : Frag}
end
end Att
namespace L2
open PySem PySem.Spec PyProof.Rows
theorem vals_ints : ∀ {vs : List Value} {ns : List Int}, IntsAre vs ns → Vals (ns.map V.int) vs
  | _, _, .nil => .nil
  | _, _, .cons n t h => .cons ⟨t, rfl⟩ (vals_ints h)
def Only (H : Hp) : Prop := ∀ b, H b = none ∨ ∃ o xs, H b = some (.frz o (.lst xs))
theorem law_call {P : Program} {w : World} {K : PySem.W.Frag} {mg mb : Str → Option Value} {CX : CXT} {k : Nat} {fa a : Addr} {fd : FuncData} {x : Str} {sp : Sp} {s₁ : Shared} {vs : List Value} {ns : List Int}
    (KX : K.In s₁.heap) (hns : s₁.heap.Ns mainGlobals mg) (hb : s₁.heap.Ns builtinsNs mb) (hbb : ∀ x : Str, x ≠ "__name__" → mb x = bootBuiltins x) (hlim : s₁.heap.NoLimit) (hg : s₁.gens = #[])
    (ha : s₁.heap.get? a = some { cls := .type "list", data := .seq vs.toArray }) (hi : IntsAre vs ns) (hl : ns.length ≤ sizeLine) (hr : Room k callerA)
    (F : ∀ base : Heap, K.In base → base.Ns mainGlobals mg → FnOk P w K mg base CX k fa fd [x] sp) (hbind : ∀ (s : Shared) (u : Value), BindsTo s fd ⟨[u], []⟩ [(x, u)])
    (hsp : ∀ H : Hp, Only H → SqL K H a (ns.map V.int) → sp [.ref a] H (fun v _ => v = .bl true) fun _ _ _ => False)
    (hCX : ∀ H e s', CX [] H s₁ (fun _ _ _ => False) e s' → False) :
    codeAny (model P w) callerA (.call (.ref fa) ⟨[.ref a], []⟩) (fun r s' => r = .ok (.ret (.bool true)) ∧ OldK s₁.heap s'.heap ∧ s'.os = s₁.os ∧ AllBare s'.gens) s₁ := by
  have rv := vals_ints hi
  have lenV := hi.length
  -- from an abstract heap in which nothing but the script may be tracked
  have core : ∀ H : Hp, Only H → SqL K H a (ns.map V.int) → HOk P w H s₁.heap → (∀ b, H b ≠ none → b = a) → (H a ≠ none → K.lookup a = none) →
      codeAny (model P w) callerA (.call (.ref fa) ⟨[.ref a], []⟩) (fun r s' => r = .ok (.ret (.bool true)) ∧ OldK s₁.heap s'.heap ∧ s'.os = s₁.os ∧ AllBare s'.gens) s₁ := by
    intro H hO hS hok hA hK
    have base_of : ∀ {b : Addr} {o : Obj}, s₁.heap.get? b = some o → H b = none → (hidT s₁.heap H).get? b = some o := fun e n => hidT_get e n
    have noA : ∀ {b : Addr} {o : Obj} {es : Array DictEntry} {ep : Nat}, s₁.heap.get? b = some o → o.data = .dict es ep → H b = none := fun {b o es ep} e d => by
      cases q : H b with
      | none => rfl
      | some u =>
        have e' : b = a := hA b (by rw [q]; simp)
        subst e'
        rw [ha] at e; cases e
        have d' : Data.seq vs.toArray _ = Data.dict es ep := d
        cases d'
    have nsK : ∀ {b : Addr} {m : Str → Option Value}, s₁.heap.Ns b m → (hidT s₁.heap H).Ns b m := fun {b m} ⟨o, es, ep, e, d, r⟩ => ⟨o, es, ep, base_of e (noA e d), d, r⟩
    have hKb : K.In (hidT s₁.heap H) := fun b o e => base_of (KX b o e) (by
      cases q : H b with
      | none => rfl
      | some u =>
        have e' : b = a := hA b (by rw [q]; simp)
        subst e'
        rw [hK (by rw [q]; simp)] at e; cases e)
    have hM : Mod K mg (hidT s₁.heap H) := ⟨hKb, nsK hns, ⟨mb, nsK hb, hbb⟩, let ⟨mc, h1, h2⟩ := hlim; ⟨mc, nsK h1, h2⟩⟩
    have e0 : Env0 P w K mg (hidT s₁.heap H) callerA [] s₁ H := ⟨rfl, hM, fun b o e => of_hidT e, Nat.le_of_eq (hidT_size _ _), trivial, fun b hb => absurd (show b ∈ ([] : List Addr) from hb) (by simp), hok, .of_eq hg⟩
    refine codeAny_mono ((F _ hKb (nsK hns)).run callerA [] s₁ H ⟨[.ref a], []⟩ [.ref a] [.ref a] _ _ hr e0 (hbind s₁ (.ref a)) (.cons rfl .nil) (hsp H hO hS)) fun r s' h => ?_
    cases r with
    | error e => exact (hCX H e s' h).elim
    | ok fl =>
      cases fl with
      | next => exact False.elim h
      | brk => exact False.elim h
      | cont => exact False.elim h
      | ret u =>
        obtain ⟨v, H', os, bare, un, hok', r', q⟩ := h
        have q' : v = .bl true := q
        subst q'
        obtain rfl : u = Value.bool true := r'
        refine ⟨rfl, OldK.of_keep fun b o e => ?_, os, bare⟩
        cases q : H b with
        | none => exact un.keep b o e q (by intro z; exact absurd (show b ∈ ([] : List Addr) from z) (by simp)) (by simp)
        | some u =>
          rcases hO b with z | ⟨ob, xs, z⟩
          · rw [q] at z; cases z
          · have z2 := un.frzs b ob _ z
            obtain ⟨e1, _⟩ := hok b _ z
            obtain ⟨e2, _⟩ := hok' b _ z2
            rw [e] at e1; cases e1
            exact e2
  cases hk : K.lookup a with
  | some o =>
    -- the script is one of the module's own objects
    have e := KX a o hk
    rw [ha] at e
    cases e
    refine core (fun _ => none) (fun _ => .inl rfl) (.inr ⟨_, vs.toArray, _, hk, rfl, rfl, rfl, by rw [List.size_toArray, lenV]; exact hl, by simpa using rv⟩) (fun b u z => by have z' : (none : Option HO) = some u := z; cases z') (fun b z => absurd rfl z) fun z => absurd rfl z
  | none =>
    refine core (fun b => if b = a then some (.frz { cls := .type "list", data := .seq vs.toArray } (.lst (ns.map V.int))) else none) (fun b => ?_) (.inl (.inr ⟨{ cls := .type "list", data := .seq vs.toArray }, if_pos rfl⟩)) (fun b u z => ?_) (fun b z => ?_) fun _ => hk
    · by_cases hb : b = a
      · exact .inr ⟨_, _, if_pos hb⟩
      · exact .inl (if_neg hb)
    · by_cases hb : b = a
      · have z' := (if_pos hb).symm.trans z
        cases z'
        subst hb
        exact ⟨ha, by rw [List.length_map]; exact hl, vs, _, rv, ha⟩
      · have z' := (if_neg hb).symm.trans z
        cases z'
    · by_cases hb : b = a
      · exact hb
      · exact absurd (if_neg hb) z
end L2
namespace L2
open PySem PySem.Spec PyProof.Rows
theorem walk_of {l : PySem.W.OpenLaw} {n k : Nat} {q : Program} {loose : List Str} {XP : (Str → Option Value) → Heap → Prop} {YP : World → Heap → Prop} {d : DefRec} {K : Params → PySem.W.Frag} {CX : World → CXT} {sp : World → Sp} {x : Str}
    (hn : l.most = some n) (hn2 : n ≤ sizeLine) (hdf : d.params.defaults = []) (hr : Room k callerA)
    (hY : ∀ (w : World) (h : Heap), YP w h → (K w.params).In h)
    (F : ∀ (w : World) (mg : Str → Option Value) (fa : Addr) (h : Heap), (K w.params).In h → h.Ns mainGlobals mg → mg d.name = some (.ref fa) →
      ∃ fd : FuncData, (∀ (s : Shared) (u : Value), BindsTo s fd ⟨[u], []⟩ [(x, u)]) ∧
        ∀ base : Heap, (K w.params).In base → base.Ns mainGlobals mg → FnOk l.prog w (K w.params) mg base (CX w) k fa fd [x] (sp w))
    (hsp : ∀ (w : World) (H : Hp) (a : Addr) (ns : List Int), ns.length ≤ n → Only H → SqL (K w.params) H a (ns.map V.int) → sp w [.ref a] H (fun v _ => v = .bl true) fun _ _ _ => False)
    (hCX : ∀ (w : World) (H : Hp) (s : Shared) (e : Value) (s' : Shared), CX w [] H s (fun _ _ _ => False) e s' → False) :
    PySem.W.WalkO q loose XP YP l.row.toRowW d [] (fun f vs => PySem.call f vs) := by
  refine Att.attach_call hn hdf fun w s₀ s₁ mg mb fa o pm cd doc a vs ns G Y ho hd hcd hmg hobj hints hlen hg => ?_
  have KX := hY w _ Y
  obtain ⟨fd, hb, hF⟩ := F w mg fa _ KX G.T.g hmg
  exact law_call KX G.T.g G.T.b G.T.builtins G.T.nolimit hg hobj hints (Nat.le_trans hlen hn2) hr hF hb (fun H hO hS => hsp w H a ns hlen hO hS) fun H e s' => hCX w H s₁ e s'
end L2
namespace L2
open PySem PySem.Spec PyProof.Rows
def defArgs (s : Stmt) : Arguments := match s with
  | .FunctionDef _ a _ _ _ _ _ _ _ _ => a
  | _ => { posonlyargs := [], args := [], vararg := none, kwonlyargs := [], kw_defaults := [], kwarg := none, defaults := [] }
def defBody (s : Stmt) : List Stmt := match s with
  | .FunctionDef _ _ b _ _ _ _ _ _ _ => b
  | _ => []
def defScope (s : Stmt) : Scope := match s with
  | .FunctionDef _ _ _ _ _ _ sc _ _ _ => sc
  | _ => { kind := .function, names := [], isGenerator := false, isCoroutine := false }
abbrev CX0 : CXT := fun _ _ _ _ _ _ => False
abbrev E0 : XK := fun _ _ _ => False
theorem pass0 {X : Cx} : Passes CX0 X E0 := fun _ _ _ _ _ _ _ h => h.elim
structure Fun (K : PySem.W.Frag) (x qual : Str) (st : Stmt) (f : Addr) (fd : FuncData) : Prop where
  ex : ∃ (oc : Value) (od : Option Addr) (kV doc pm : Value) (an : Option Addr) (cdv ct : Value) (osl : Array (Option Value)),
    fd = PySem.W.fnOf x qual (defArgs st) (defBody st) (defScope st) .none kV doc pm an cdv ct ∧ K.lookup f = some ⟨oc, od, .func fd, osl⟩ ∧ PySem.W.codeIn K cdv qual = true
  kp : PySem.W.keepIn K (.ref f) = true
section
variable {P : Program} {w : World} {K : PySem.W.Frag} {mg : Str → Option Value} {base : Heap}
theorem Fun.ok {x qual : Str} {st : Stmt} {f : Addr} {fd : FuncData} {N ps : List Str} {k : Nat} {sp : Sp} (F : Fun K x qual st f fd) (S : FnScope N ps (defScope st)) (len : ∀ vs H Q E, sp vs H Q E → vs.length = ps.length)
    (hbody : ∀ (cdv : Value) (A : Around) (outer : List Env) (s : Shared) (H : Hp) (vs : List V) (Q : VK) (E : XK), Room k (A.deeper (envOfC qual (defScope st) s.heap.objs.size f cdv)) → sp vs H Q E →
      ∃ t, PSs (cxOf CX0 P w K mg base N qual (defScope st) f cdv A outer s H E).nox (defBody st) t ∧ t { nx := fun _ H' => Q .non H', rt := Q } (start N vs) H) : FnOk P w K mg base CX0 (k + 1) f fd ps sp := by
  obtain ⟨oc, od, kV, doc, pm, an, cdv, ct, osl, rfl, lk, hcd⟩ := F.ex
  refine fn_of lk hcd S len fun A outer s H vs Q E hr hsp => ?_
  obtain ⟨t, h, q⟩ := hbody cdv A outer s H vs Q E hr hsp
  exact ⟨t, h.nox, q⟩
theorem Fun.binds {x qual : Str} {st : Stmt} {f : Addr} {fd : FuncData} {ps : List Str} (F : Fun K x qual st f fd)
    (h : ∀ (kV doc pm : Value) (an : Option Addr) (cdv ct : Value) (us : List Value), us.length = ps.length → bindArgs (PySem.W.fnOf x qual (defArgs st) (defBody st) (defScope st) .none kV doc pm an cdv ct) ⟨us, []⟩ = pure (ps.zip us)) : Binds K fd ps [] := by
  obtain ⟨oc, od, kV, doc, pm, an, cdv, ct, osl, rfl, lk, hcd⟩ := F.ex
  exact .all (h kV doc pm an cdv ct)
theorem fun_mk {x qual : Str} {st : Stmt} {f : Addr} {oc : Value} {od an : Option Addr} {osl : Array (Option Value)} {kV doc pm cdv ct : Value} (l : K.lookup f = some ⟨oc, od, .func (PySem.W.fnOf x qual (defArgs st) (defBody st) (defScope st) .none kV doc pm an cdv ct), osl⟩)
    (c : PySem.W.codeIn K cdv qual = true) (k : PySem.W.keepIn K (.ref f) = true) : Fun K x qual st f (PySem.W.fnOf x qual (defArgs st) (defBody st) (defScope st) .none kV doc pm an cdv ct) := ⟨⟨oc, od, kV, doc, pm, an, cdv, ct, osl, rfl, l, c⟩, k⟩
end
section
variable {X : Cx}
theorem pv (i : Nat) {x : Str} {pos : Pos} (hN : X.N[i]? = some x := by rfl) (hv : Vis X.env.scope x := by first | exact Or.inl rfl | exact Or.inr (Or.inl rfl) | exact Or.inr (Or.inr rfl)) (hd : (x == ("__debug__" : Str)) = false := by decide)
    (hcd : (x == ("__classdict__" : Str)) = false := by decide) : PE X (.Name x pos) (tVar i) := pe_var hN hv hd hcd
end
def Same (H H' : Hp) : Prop := ∀ b o, H b = some o → H' b = some o
theorem Same.refl (H : Hp) : Same H H := fun _ _ h => h
theorem Same.trans {H H1 H2 : Hp} (a : Same H H1) (b : Same H1 H2) : Same H H2 := fun c o h => b c o (a c o h)
theorem Same.free {H H' : Hp} (e : Same H H') {l : Addr} (h : H' l = Option.none) : H l = Option.none := by
  cases q : H l with
  | none => rfl
  | some o =>
    rw [e l o q] at h
    cases h
theorem Same.seq {K : PySem.W.Frag} {H H' : Hp} {a : Addr} {xs : List V} (e : Same H H') (h : SqL K H a xs) : SqL K H' a xs := by
  rcases h with (h | ⟨o, h⟩) | h
  · exact .inl (.inl (e _ _ h))
  · exact .inl (.inr ⟨o, e _ _ h⟩)
  · exact .inr h
end L2
namespace L2
open PySem PySem.Spec PyProof.Rows
def Cx.inner (X : Cx) (scope : Scope) (cl : List (Str × Addr)) (C : Addr) (s : Shared) (H : Hp) (fp : List Addr) : Cx :=
  { X with s₀ := s, H₀ := H, env := compEnvC scope cl C X.env, outer := X.stack, ex := fp, fn := fun _ => false, xe := fun _ _ => False }
theorem relabel_names_lookup {scope : Scope} {env : Env} {x : Str} : ∀ {names : List (Str × NameKind)}, 
    ((names.map fun (n, k) => if (k == NameKind.free && env.scope.kind == .function && env.kindOf n == some .cell) then (n, NameKind.cell) else (n, k)).lookup x = some .cell ∨
     (names.map fun (n, k) => if (k == NameKind.free && env.scope.kind == .function && env.kindOf n == some .cell) then (n, NameKind.cell) else (n, k)).lookup x = some .free) →
    names.lookup x = some .cell ∨ names.lookup x = some .free
  | [], h => by simp at h
  | (n, k) :: r, h => by
    have ih := @relabel_names_lookup scope env x r
    cases hx : x == n with
    | true =>
      simp only [List.map_cons, List.lookup_cons] at h ⊢
      by_cases hc : (k == NameKind.free && env.scope.kind == .function && env.kindOf n == some .cell) = true
      · have hk : k = .free := by
          simp only [Bool.and_eq_true, beq_iff_eq] at hc
          exact hc.1.1
        right; simp [hx, hk]
      · rw [if_neg hc] at h
        simp only [List.lookup_cons, hx] at h ⊢
        exact h
    | false =>
      simp only [List.map_cons, List.lookup_cons] at h ⊢
      by_cases hc : (k == NameKind.free && env.scope.kind == .function && env.kindOf n == some .cell) = true
      · rw [if_pos hc] at h; simp only [List.lookup_cons, hx] at h ⊢; exact ih h
      · rw [if_neg hc] at h; simp only [List.lookup_cons, hx] at h ⊢; exact ih h
theorem relabel_local {env : Env} {x : Str} : ∀ {names : List (Str × NameKind)}, 
    (names.map fun (n, k) => if (k == NameKind.free && env.scope.kind == .function && env.kindOf n == some .cell) then (n, NameKind.cell) else (n, k)).lookup x = some .local →
    names.lookup x = some .local
  | [], h => by simp at h
  | (n, k) :: r, h => by
    have ih := @relabel_local env x r
    cases hx : x == n with
    | true =>
      simp only [List.map_cons, List.lookup_cons] at h ⊢
      by_cases hc : (k == NameKind.free && env.scope.kind == .function && env.kindOf n == some .cell) = true
      · rw [if_pos hc] at h; simp only [List.lookup_cons, hx] at h; cases h
      · rw [if_neg hc] at h; simp only [List.lookup_cons, hx] at h ⊢; exact h
    | false =>
      simp only [List.map_cons, List.lookup_cons] at h ⊢
      by_cases hc : (k == NameKind.free && env.scope.kind == .function && env.kindOf n == some .cell) = true
      · rw [if_pos hc] at h; simp only [List.lookup_cons, hx] at h ⊢; exact ih h
      · rw [if_neg hc] at h; simp only [List.lookup_cons, hx] at h ⊢; exact ih h
theorem closure_of {scope : Scope} {env : Env} (hhas : ∀ x, scope.names.lookup x = some .free → ∃ c, env.cells.lookup x = some c) (hnd : ∀ x k, (x, k) ∈ scope.names → k = .free → scope.names.lookup x = some .free) :
    ∃ cl, closureFor scope env = pure cl ∧ (∀ x c, cl.lookup x = some c → env.cells.lookup x = some c) ∧ ∀ x, scope.names.lookup x = some .free → ∃ c, cl.lookup x = some c := by
  have go : ∀ (names : List (Str × NameKind)) (cs : List (Str × Addr)), (∀ x k, (x, k) ∈ names → k = .free → ∃ c, env.cells.lookup x = some c) → (∀ x c, cs.lookup x = some c → env.cells.lookup x = some c) →
      ∃ cl, (forIn names cs (fun (x : Str × NameKind) (r : List (Str × Addr)) => (if (x.2 == NameKind.free) = true then (cellOf env x.1 >>= fun c => (pure (ForInStep.yield ((x.1, c) :: r)) : Sem _)) else pure (ForInStep.yield r)))) = (pure cl : Sem _) ∧
        (∀ x c, cl.lookup x = some c → env.cells.lookup x = some c) ∧ (∀ x, (cs.lookup x).isSome = true → (cl.lookup x).isSome = true) ∧ ∀ x, (x, NameKind.free) ∈ names → (cl.lookup x).isSome = true := by
    intro names
    induction names with
    | nil => intro cs _ h2; exact ⟨cs, by simp, h2, fun _ z => z, fun _ z => by simp at z⟩
    | cons p r ih =>
      intro cs h1 h2
      obtain ⟨n, k⟩ := p
      by_cases hk : k = .free
      · subst hk
        obtain ⟨c, hc⟩ := h1 n _ List.mem_cons_self rfl
        have hcell : cellOf env n = pure c := by unfold cellOf; rw [hc]
        obtain ⟨cl, e, a, b, d⟩ := ih ((n, c) :: cs) (fun x k hx hk => h1 x k (List.mem_cons_of_mem _ hx) hk) (fun x c' hx => by
          rw [List.lookup_cons] at hx
          cases hxn : x == n with
          | true => rw [hxn] at hx; simp at hx; subst hx; have : x = n := by simpa using hxn
                    rw [this]; exact hc
          | false => rw [hxn] at hx; exact h2 x c' hx)
        refine ⟨cl, ?_, a, fun x hx => b x ?_, fun x hx => ?_⟩
        · rw [List.forIn_cons]
          simp only [hcell]
          simpa using e
        · rw [List.lookup_cons]
          cases hxn : x == n with
          | true => rfl
          | false => exact hx
        · rcases List.mem_cons.mp hx with z | z
          · injection z with z1 _
            subst z1
            exact b x (by rw [List.lookup_cons]; simp)
          · exact d x z
      · have hb : (k == NameKind.free) = false := by simpa using hk
        obtain ⟨cl, e, a, b, d⟩ := ih cs (fun x k hx hk => h1 x k (List.mem_cons_of_mem _ hx) hk) h2
        refine ⟨cl, ?_, a, b, fun x hx => ?_⟩
        · rw [List.forIn_cons]
          simp only [hb]
          simpa using e
        · rcases List.mem_cons.mp hx with z | z
          · injection z with _ z2
            exact absurd z2.symm hk
          · exact d x z
  obtain ⟨cl, e, a, _, d⟩ := go scope.names [] (fun x k hx hk => hhas x (hnd x k hx hk)) (fun x c h => by simp at h)
  refine ⟨cl, ?_, a, fun x hx => Option.isSome_iff_exists.mp (d x (PySem.mem_of_lookup hx))⟩
  unfold closureFor
  simpa using e
end L2
namespace L2
open PySem PySem.Spec PyProof.Rows
def innerOk (N : List Str) (sc scope : Scope) (js : List Nat) : Bool :=
  (match scope.kind with | .function => true | _ => false) &&
  scope.names.all (fun p => (match p.2 with
    | .cell => false
    | .local => (match scope.names.lookup p.1 with | some .local => true | _ => false)
    | .free => (match scope.names.lookup p.1 with | some .free => true | _ => false) && (match sc.names.lookup p.1 with | some .cell => true | some .free => true | _ => false)
    | _ => true)) &&
  (N.zipIdx.all fun p => (match scope.names.lookup p.1 with | some .local => js.contains p.2 | _ => true))
structure InnerIn (N : List Str) (sc scope : Scope) (js : List Nat) : Prop where
  kind : scope.kind = .function
  nocell : ∀ y ∈ scope.names, y.2 ≠ .cell
  uniqL : ∀ y ∈ scope.names, y.2 = .local → scope.names.lookup y.1 = some .local
  uniqF : ∀ x k, (x, k) ∈ scope.names → k = .free → scope.names.lookup x = some .free
  fr : ∀ x, scope.names.lookup x = some .free → sc.names.lookup x = some .cell ∨ sc.names.lookup x = some .free
  jsl : ∀ (i : Nat) x, N[i]? = some x → scope.names.lookup x = some .local → i ∈ js
theorem innerIn_of {N : List Str} {sc scope : Scope} {js : List Nat} (h : innerOk N sc scope js = true) : InnerIn N sc scope js := by
  unfold innerOk at h
  rw [Bool.and_eq_true, Bool.and_eq_true] at h
  obtain ⟨⟨h1, h2⟩, h3⟩ := h
  rw [List.all_eq_true] at h2 h3
  refine ⟨?_, fun y hy e => ?_, fun y hy e => ?_, fun x k hy e => ?_, fun x e => ?_, fun i x e1 e2 => ?_⟩
  · cases q : scope.kind <;> rw [q] at h1 <;> first | rfl | cases h1
  · have := h2 y hy; rw [e] at this; cases this
  · have := h2 y hy
    rw [e] at this
    dsimp only at this
    split at this
    · assumption
    · cases this
  · have := h2 _ hy
    rw [e] at this
    dsimp only at this
    rw [Bool.and_eq_true] at this
    have := this.1
    split at this
    · assumption
    · cases this
  · have := h2 _ (PySem.mem_of_lookup e)
    dsimp only at this
    rw [Bool.and_eq_true] at this
    have := this.2
    split at this
    · left; assumption
    · right; assumption
    · cases this
  · have hm : (x, i) ∈ N.zipIdx := by
      rw [List.mem_zipIdx_iff_getElem?]
      exact e1
    have := h3 _ hm
    dsimp only at this
    rw [e2] at this
    dsimp only at this
    simpa using this
def blank (js : List Nat) (σ : St) : St := js.foldl (fun σ j => σ.set j none) σ
theorem blank_length (js : List Nat) : ∀ σ : St, (blank js σ).length = σ.length := by
  induction js with
  | nil => intro σ; rfl
  | cons j r ih => intro σ; unfold blank; rw [List.foldl_cons]; have := ih (σ.set j none); unfold blank at this; rw [this, List.length_set]
theorem blank_get (js : List Nat) : ∀ (σ : St) (i : Nat) (v : V), (blank js σ)[i]? = some (some v) → i ∉ js ∧ σ[i]? = some (some v) := by
  induction js with
  | nil => intro σ i v h; exact ⟨by simp, h⟩
  | cons j r ih =>
    intro σ i v h
    unfold blank at h
    rw [List.foldl_cons] at h
    obtain ⟨a, b⟩ := ih (σ.set j none) i v h
    by_cases e : i = j
    · subst e
      by_cases hl : i < σ.length
      · rw [List.getElem?_set_self hl] at b; cases b
      · rw [List.getElem?_eq_none (by rw [List.length_set]; omega)] at b; cases b
    · rw [List.getElem?_set_ne (Ne.symm e)] at b
      exact ⟨by simp [e, a], b⟩
def GOk (js : List Nat) (g : TG) : Prop := ∀ x σ H Q, g x σ H Q → g x σ H fun σ2 H2 => (σ2.length = σ.length ∧ ∀ i, i ∉ js → σ2[i]? = σ[i]?) ∧ Q σ2 H2
theorem gok_name {j : Nat} {js : List Nat} (h : j ∈ js) : GOk js (gName j) := fun x σ H Q q => ⟨⟨List.length_set .., fun i hi => List.getElem?_set_ne (fun (e : j = i) => hi (e ▸ h))⟩, q⟩
def GsOk (js : List Nat) (g : TGs) : Prop := ∀ x σ H Q, g x σ H Q → g x σ H fun σ2 H2 => (σ2.length = σ.length ∧ ∀ i, i ∉ js → σ2[i]? = σ[i]?) ∧ Q σ2 H2
theorem gsok_nil {js : List Nat} : GsOk js gNil := fun x σ H Q ⟨e, q⟩ => ⟨e, ⟨rfl, fun _ _ => rfl⟩, q⟩
theorem gsok_cons {j : Nat} {js : List Nat} {u : TGs} (h : j ∈ js) (hu : GsOk js u) : GsOk js (gCons (gName j) u) := by
  rintro x σ H Q ⟨v, r, e, q⟩
  refine ⟨v, r, e, ?_⟩
  have := hu r (σ.set j (some v)) H Q q
  show u r (σ.set j (some v)) H _
  have key : ∀ (P P' : St → Hp → Prop), (∀ a b, P a b → P' a b) → True := fun _ _ _ => trivial
  have e2 : (fun σ2 H2 => (σ2.length = (σ.set j (some v)).length ∧ ∀ (i : Nat), i ∉ js → σ2[i]? = (σ.set j (some v))[i]?) ∧ Q σ2 H2) = (fun σ2 H2 => (σ2.length = σ.length ∧ ∀ (i : Nat), i ∉ js → σ2[i]? = σ[i]?) ∧ Q σ2 H2) := by
    funext σ2 H2
    have e3 : (∀ (i : Nat), i ∉ js → σ2[i]? = (σ.set j (some v))[i]?) = (∀ (i : Nat), i ∉ js → σ2[i]? = σ[i]?) := by
      apply propext
      constructor
      · intro k i hi; rw [k i hi, List.getElem?_set_ne (fun (e : j = i) => hi (e ▸ h))]
      · intro k i hi; rw [k i hi, List.getElem?_set_ne (fun (e : j = i) => hi (e ▸ h))]
    rw [e3, List.length_set]
  rw [e2] at this
  exact this
theorem gok_tup {K : PySem.W.Frag} {n : Nat} {js : List Nat} {u : TGs} (hu : GsOk js u) : GOk js (gTup K n u) := by
  rintro x σ H Q ⟨a, xs, e, hq, hl, q⟩
  exact ⟨a, xs, e, hq, hl, hu _ _ _ _ q⟩
theorem compLoop_go {prog : Program} {w : World} {A : Around} {R : Result → Shared → Prop} {s : Shared} {elt target iter : Expr} {scope : Scope} {pos : Pos} {it acc : Value} {env : Env} (I : Nat → Shared → Prop)
    (turn : ∀ n s, I n s → wpAny (model prog w) A (pyNext it) (fun r s₁ => match r with
      | none => R (.ok .next) s₁
      | some v => wpAny (model prog w) A (letOwnedTupleGo target it v) (fun _ s₂ => wpAny (model prog w) A (assign target env v) (fun _ s₃ => wpAny (model prog w) A (eval elt env) (fun x s₄ =>
          wpAny (model prog w) A (call (.builtin "list.append") [acc, x]) (fun _ s₅ => ∃ m, m < n ∧ I m s₅) (fun _ _ => False) s₄) (fun _ _ => False) s₃) (fun _ _ => False) s₂) (fun _ _ => False) s₁) (fun _ _ => False) s)
    (n : Nat) (h : I n s) :
    codeAny (model prog w) A (.compLoop (.ListComp elt [⟨target, iter, [], 0⟩] scope pos) 0 it acc env) R s := by
  refine codeAny_loop rfl I (fun n s hI => ?_) n h
  show wpAny _ _ ((compTurn (.ListComp elt [⟨target, iter, [], 0⟩] scope pos) 0 it acc env).onRaise (fun x => do noteFrame x env; theTreesLotGoes x)) _ _ s
  refine wpAny_noted ?_
  rw [compTurn_list1]
  have no : ∀ {E : Value → Shared → Prop}, ∀ (e : Value) (s : Shared), False → E e s := fun _ _ z => z.elim
  refine wpAny_bind (wpAny_standAt (wpAny_bind (wpAny_mono (turn n s hI) (fun r s₁ h₁ => ?_) no)))
  cases r with
  | none => exact wpAny_pure h₁
  | some v =>
    refine wpAny_bind (wpAny_mono h₁ (fun _ s₂ h₂ => ?_) no)
    exact wpAny_bind (wpAny_mono h₂ (fun _ s₃ h₃ => wpAny_bind (wpAny_bind (wpAny_mono h₃ (fun x s₄ h₄ => wpAny_bind (wpAny_mono h₄
      (fun _ s₅ h₅ => wpAny_pure (wpAny_pure ⟨rfl, h₅⟩)) no)) no))) no)
end L2
namespace L2
open PySem PySem.Spec PyProof.Rows
section
variable {X : Cx} {pins : List (Addr × Obj)} {σ : St} {H : Hp} {s : Shared} {scope : Scope} {cl : List (Str × Addr)} {js : List Nat} {fp : List Addr} {C D : Addr}
theorem Inv.innerOk (I : Inv X pins σ H s) (hin : InnerIn X.N X.env.scope scope js) (hf : ∀ b ∈ fp, FpOk X pins H b) (hfe : ∀ b ∈ fp, b < s.heap.objs.size) (hC : s.heap.objs.size ≤ C)
    (hcl : ∀ x c, cl.lookup x = some c → X.env.cells.lookup x = some c) (hfr : ∀ x, scope.names.lookup x = some .free → ∃ c, cl.lookup x = some c) : (X.inner scope cl C s H fp).Ok where
  mod := I.ok.mod
  kind := hin.kind
  glob := I.ok.glob
  blt := I.ok.blt
  above := hC
  inj := fun x y c a b => I.ok.inj x y c (hcl x c a) (hcl y c b)
  has := fun x h => by
    rcases relabel_names_lookup (scope := scope) (env := X.env) (names := scope.names) h with q | q
    · exact absurd rfl (hin.nocell _ (PySem.mem_of_lookup q))
    · exact hfr x q
  cab := fun x c h => nomatch h
  hd := I.ok.hd
  frames := I.ok.frames
  stk := .inl rfl
  exf := fun b hb => ⟨Nat.ne_of_lt (Nat.lt_of_lt_of_le (hfe b hb) hC), fun x c e => (hf b hb).2.2.2.2.1 x c (hcl x c e)⟩
  bs := I.bs
  bsz := Nat.le_trans I.ok.bsz I.sz
  noex := fun b o e hb => by
    rcases (hf b hb).2.2.2.1 with z | z
    · exact I.ok.noex b o e z
    · exact absurd (Nat.lt_of_lt_of_le (Heap.lt_size e) (Nat.le_trans I.ok.bsz z)) (Nat.lt_irrefl _)
  exfs := fun b hb z => by
    rcases List.mem_cons.mp (I.stkSub b z) with e | e
    · exact (hf b hb).2.1 e
    · exact (hf b hb).2.2.1 e
  funs := I.stack
  frf := I.stkFree
theorem Inv.notStk (I : Inv X pins σ H s) {a : Addr} (h : s.heap.objs.size ≤ a) : a ∉ frs X.stack := fun hb => by
  rcases List.mem_cons.mp (I.stkSub a hb) with e | e
  · exact absurd (Nat.lt_of_lt_of_le I.lt (e ▸ h)) (Nat.lt_irrefl _)
  · exact I.nofs h e
theorem Inv.cellLt (I : Inv X pins σ H s) {x : Str} {c : Addr} (e : X.env.cells.lookup x = some c) : c < s.heap.objs.size := by
  obtain ⟨v, q⟩ := I.cell x c e
  exact q.lt
theorem Inv.pinLt (I : Inv X pins σ H s) {p : Addr × Obj} (hp : p ∈ X.pn ++ pins) : p.1 < s.heap.objs.size := Heap.lt_size (I.pin p hp).1
theorem Inv.enter {h' : Heap} {tk : Nat} {o : Obj} (I : Inv X pins σ H s) (hin : InnerIn X.N X.env.scope scope js) (hf : ∀ b ∈ fp, FpOk X pins H b) (hfe : ∀ b ∈ fp, b < s.heap.objs.size) (hC : s.heap.objs.size ≤ C) (hD : s.heap.objs.size ≤ D) (hDC : D ≠ C)
    (hcl : ∀ x c, cl.lookup x = some c → X.env.cells.lookup x = some c) (hfr : ∀ x, scope.names.lookup x = some .free → ∃ c, cl.lookup x = some c)
    (k : ∀ b u, s.heap.get? b = some u → h'.get? b = some u) {m : Str → Option Value} (hns : h'.Ns C m) (ho : h'.get? D = some o) (hoc : ∀ v, o.data ≠ .cell v) :
    Inv (X.inner scope cl C s H fp) (pins ++ [(D, o)]) (blank js σ) H { s with heap := h', toks := tk } where
  ok := I.innerOk hin hf hfe hC hcl hfr
  os := rfl
  bare := I.bare
  base := Un.kept k
  loc := by
    refine ⟨m, hns, fun i x v e1 e2 e3 => ?_⟩
    obtain ⟨hj, e2⟩ := blank_get js σ i v e2
    have free : scope.names.lookup x = some .free := by
      rcases e3 with q | q | q
      · exact absurd (hin.jsl i x e1 (relabel_local (env := X.env) (names := scope.names) q)) hj
      · rcases relabel_names_lookup (scope := scope) (env := X.env) (names := scope.names) (.inl q) with z | z
        · exact absurd rfl (hin.nocell _ (PySem.mem_of_lookup z))
        · exact z
      · rcases relabel_names_lookup (scope := scope) (env := X.env) (names := scope.names) (.inr q) with z | z
        · exact absurd rfl (hin.nocell _ (PySem.mem_of_lookup z))
        · exact z
    have kx := hin.fr x free
    obtain ⟨m0, hn0, hl0⟩ := I.loc
    obtain ⟨u, r, l⟩ := hl0 i x v e1 e2 (kx.elim (fun z => .inr (.inl z)) fun z => .inr (.inr z))
    refine ⟨u, r, ?_⟩
    rcases l with ⟨z, _⟩ | ⟨_, c, hc, hcell⟩
    · have z' : X.env.scope.names.lookup x = some .local := z
      rcases kx with y | y
      · rw [y] at z'; cases z'
      · rw [y] at z'; cases z'
    · obtain ⟨c', hc'⟩ := hfr x free
      have : c' = c := by
        have q := hcl x c' hc'
        rw [hc] at q
        exact (Option.some.inj q).symm
      subst this
      obtain ⟨oc, q1, q2⟩ := hcell
      refine .inr ⟨?_, c', hc', oc, k _ _ q1, q2⟩
      rcases e3 with q | q | q
      · have := relabel_local (env := X.env) (names := scope.names) q
        rw [free] at this; cases this
      · exact .inl q
      · exact .inr q
  cell := fun x c e => by
    obtain ⟨v, oc, q1, q2⟩ := I.cell x c (hcl x c e)
    exact ⟨v, oc, k _ _ q1, q2⟩
  free := I.hok.fresh hC
  freeC := fun x c e => I.freeC x c (hcl x c e)
  pin := fun p hp => by
    have hp' : p ∈ X.pn ++ (pins ++ [(D, o)]) := hp
    rw [← List.append_assoc] at hp'
    rcases List.mem_append.mp hp' with z | z
    · obtain ⟨a1, a2, a3, a4, a5⟩ := I.pin p z
      refine ⟨k _ _ a1, a2, Nat.ne_of_lt (Nat.lt_of_lt_of_le (Heap.lt_size a1) hC), fun q => ?_, a5⟩
      rcases List.mem_cons.mp (I.stkSub p.1 q) with e | e
      · exact a3 e
      · exact a4 e
    · have e : p = (D, o) := by simpa using z
      subst e
      exact ⟨ho, I.hok.fresh hD, hDC, I.notStk hD, hoc⟩
  hok := I.hok.kept k
  len := (blank_length js σ).trans I.len
theorem Inv.leave {Y : Cx} {H' : Hp} {s' : Shared} {τ : St} {pl : List (Addr × Obj)} {ys : List V} {its : List Value} {n : Nat} (I : Inv X pins σ H s) (hf : ∀ b ∈ fp, FpOk X pins H b) (hY : Y = X.inner scope cl C s H fp) (J : Inv Y pl τ H' s') (hD : s.heap.objs.size ≤ D)
    (hHD : H' D = none) (hz : ys.length ≤ sizeLine) (hv : Vals ys its) (ho : s'.heap.get? D = some { cls := .type "list", data := .seq its.toArray n }) :
    Inv X pins σ (upd H' D (.lst ys)) s' := by
  subst hY
  have un : Un (frs X.stack) fp H H' s.heap s'.heap := J.base
  have ne : ∀ {b : Addr} {o : Obj}, s.heap.get? b = some o → b ≠ D := fun e => Nat.ne_of_lt (Nat.lt_of_lt_of_le (Heap.lt_size e) hD)
  have nH : ∀ {b : Addr} {o : HO}, H' b = some o → b ≠ D := fun e z => by rw [z, hHD] at e; cases e
  have un' : Un (frs X.stack) fp H (upd H' D (.lst ys)) s.heap s'.heap :=
    ⟨un.keep, un.slot, fun b o e n' hx => by rw [upd_ne (ne e)]; exact un.free b o e n' hx, un.there, fun b xs e => by have := un.tups b xs e; rw [upd_ne (nH this)]; exact this,
      fun b o u e => by have := un.frzs b o u e; rw [upd_ne (nH this)]; exact this, fun b ps e => by obtain ⟨more, q⟩ := un.tbls b ps e; exact ⟨more, by rw [upd_ne (nH q)]; exact q⟩⟩
  have hok : HOk X.prog X.w (upd H' D (.lst ys)) s'.heap := fun b u e => by
    by_cases hb : b = D
    · subst hb
      rw [upd_same] at e
      cases e
      exact ⟨hz, its, n, hv, ho⟩
    · rw [upd_ne hb] at e
      exact (J.hok b u e).stay (fun _ _ _ q => q) (fun c q => by rw [upd_ne (nH q)]; exact q) fun c xs q => by rw [upd_ne (nH q)]; exact q
  exact I.call' J.os un' hok J.bare fun b hb => by
    obtain ⟨_, f1, _, f3, f4, f5⟩ := hf b hb
    exact ⟨f3, f1, f4, f5⟩
end
section
variable {X : Cx} {tg iter elt : Expr} {scope : Scope} {pos : Pos} {g : TG} {te : TE} {js : List Nat} {wi : TI}
def CompW (js : List Nat) (g : TG) (te : TE) (J : It) (σ : St) (Fin : List V → Hp → Prop) (W : Nat → Nat → List V → Hp → Prop) : Prop := ∀ i m ys H, W i m ys H →
  (J.stop i H ∧ Fin ys H) ∨ (J.go i H ∧ ys.length < sizeLine ∧ ∃ N : List V → Hp → Prop, (∀ zs H', N zs H' → ∃ m', m' < m ∧ W (i + 1) m' zs H') ∧ ∀ x H', J.yld i H x H' → g x (blank js σ) H' fun σ2 H2 => te σ2 H2 fun v H3 => N (ys ++ [v]) H3)
theorem comp_block {pins : List (Addr × Obj)} {s2 : Shared} {σ : St} {H2 : Hp} {it : Addr} {fp : List Addr} {tn : Nat → Heap → Prop} {J : It} {cl : List (Str × Addr)} {W : Nat → Nat → List V → Hp → Prop} {Fin : List V → Hp → Prop} {E : Value → Shared → Prop} {RR : Value → Addr → Result → Shared → Prop}
    (hin : InnerIn X.N X.env.scope scope js) (hc : X.calm = true) (hg : ∀ cl C s H fp, PG (X.inner scope cl C s H fp) tg g) (hgo : GOk js g) (he : ∀ cl C s H fp, PE (X.inner scope cl C s H fp) elt te)
    (I2 : Inv X pins σ H2 s2) (T : Turn X.prog X.w X.K tg J fp it tn) (t0 : tn 0 s2.heap) (hf : ∀ b ∈ fp, FpOk X pins H2 b)
    (hcl : ∀ x c, cl.lookup x = some c → X.env.cells.lookup x = some c) (hfr : ∀ x, scope.names.lookup x = some .free → ∃ c, cl.lookup x = some c)
    {m0 : Nat} (w0 : W 0 m0 [] H2) (turn : CompW js g te J σ Fin W)
    (hRR : ∀ D C s' H' ys m, Inv X pins σ (upd H' D (.lst ys)) s' → H' D = none → Fin ys H' → s'.heap.Ns C m → C ≠ X.env.locals → X.s₀.heap.objs.size ≤ C → (∀ x c, X.env.cells.lookup x = some c → c ≠ C) → (∀ p ∈ X.pn ++ pins, p.1 ≠ C) → H' C = none → D ≠ C → RR (.ref D) C (.ok .next) s') :
    wpAny (model X.prog X.w) X.A (newList []) (fun acc s₃ => wpAny (model X.prog X.w) X.A (newFunctionEnv scope X.env.globals cl [] X.env.qual none .none (some X.env)) (fun cenv s₄ =>
      codeAny (model X.prog X.w) X.A (.compStart (.ListComp elt [⟨tg, iter, [], 0⟩] scope pos) 0 (.ref it) acc { cenv with scope := relabel scope X.env }) (RR acc cenv.locals) s₄) E s₃) E s2 := by
  have hfe : ∀ b ∈ fp, b < s2.heap.objs.size := fun b hb => let ⟨_, e, _⟩ := T.obj _ _ t0 b hb; Heap.lt_size e
  refine wpAny_newObj_type (wpAny_newFunctionEnv hin.nocell (by intro y hy; simp at hy) (fun h₁ hns₁ hsb₁ => ?_) hin.kind)
  dsimp only at hns₁ hsb₁ ⊢
  generalize hHH : s2.heap.push { cls := .type "list", dict := none, data := .seq ([] : List Value).toArray } = HH at hns₁ hsb₁ ⊢
  have hC : HH.objs.size = s2.heap.objs.size + 1 := by rw [← hHH, Heap.size_push]
  have hDC : s2.heap.objs.size ≠ HH.objs.size := by rw [hC]; exact Nat.ne_of_lt (Nat.lt_succ_self _)
  have hCle : s2.heap.objs.size ≤ HH.objs.size := by rw [hC]; exact Nat.le_succ _
  have below : ∀ b, b < s2.heap.objs.size → b ≠ HH.objs.size ∧ b ≠ s2.heap.objs.size := fun b hb => ⟨by rw [hC]; exact Nat.ne_of_lt (Nat.lt_succ_of_lt hb), Nat.ne_of_lt hb⟩
  have old : ∀ b o, s2.heap.get? b = some o → h₁.get? b = some o := fun b o e => hsb₁.extBut b o (below b (Heap.lt_size e)).1 (Heap.get?_push_of_some _ (hHH ▸ Heap.get?_push_of_some _ e))
  have hacc : h₁.get? s2.heap.objs.size = some { cls := .type "list", data := .seq ([] : List Value).toArray 0 } := hsb₁.extBut _ _ hDC (Heap.get?_push_of_some _ (hHH ▸ Heap.get?_push_size _ rfl))
  generalize hDD : s2.heap.objs.size = D at *
  generalize hCC : HH.objs.size = C at *
  have hDle : s2.heap.objs.size ≤ D := Nat.le_of_eq hDD
  have hCle' : s2.heap.objs.size ≤ C := by rw [hDD]; exact hCle
  have nocell : ∀ (its : List Value) (n : Nat) v, ({ cls := .type "list", data := .seq its.toArray n } : Obj).data ≠ .cell v := fun _ _ _ z => by cases z
  have I4 : Inv (X.inner scope cl C s2 H2 fp) (pins ++ [(D, { cls := .type "list", data := .seq ([] : List Value).toArray 0 })]) (blank js σ) H2 { s2 with heap := h₁, toks := s2.toks + ([] : List (Str × Value)).length } :=
    I2.enter hin hf (by rw [hDD]; exact hfe) hCle' hDle hDC hcl hfr old hns₁ hacc (nocell _ _)
  have stat : ∀ {H' : Hp} {o : Obj}, (∀ b ∈ fp, H' b = none) → ∀ b ∈ fp, FpOk (X.inner scope cl C s2 H2 fp) (pins ++ [(D, o)]) H' b := fun {H' o} hn b hb => by
    obtain ⟨_, f1, f2, f3, f4, f5⟩ := hf b hb
    refine ⟨hn b hb, (below b (hfe b hb)).1, fun z => ?_, .inl hb, fun x c e => f4 x c (hcl x c e), fun p hp => ?_⟩
    · rcases List.mem_cons.mp (I2.stkSub b z) with e | e
      · exact f1 e
      · exact f2 e
    · have hp' : p ∈ X.pn ++ (pins ++ [(D, o)]) := hp
      rw [← List.append_assoc] at hp'
      rcases List.mem_append.mp hp' with z | z
      · exact f5 p z
      · have e : p = (D, o) := by simpa using z
        subst e
        exact fun z => (below b (hfe b hb)).2 z.symm
  have loop : ∀ s₃ : Shared, s₃ = { s2 with heap := h₁, toks := s2.toks + ([] : List (Str × Value)).length } →
      codeAny (model X.prog X.w) X.A (.compLoop (.ListComp elt [⟨tg, iter, [], 0⟩] scope pos) 0 (.ref it) (.ref D) (compEnvC scope cl C X.env)) (RR (.ref D) C) s₃ := by
    rintro s₃ rfl
    refine compLoop_go (fun n s' => ∃ i ys its k H', Inv (X.inner scope cl C s2 H2 fp) (pins ++ [(D, { cls := .type "list", data := .seq its.toArray k })]) (blank js σ) H' s' ∧ tn i s'.heap ∧ (∀ b ∈ fp, H' b = none) ∧ Vals ys its ∧ ys.length ≤ sizeLine ∧ W i n ys H') ?_ m0
      ⟨0, [], [], 0, H2, I4, T.keep _ _ _ t0 fun b hb o e => old b o e, fun b hb => (hf b hb).1, .nil, Nat.zero_le _, w0⟩
    rintro n s3 ⟨i, ys, its, k, H3, I3, st3, fr3, hv3, hz3, w3⟩
    rcases turn i n ys H3 w3 with ⟨stop, fin⟩ | ⟨go, hlt, N, hN, step⟩
    · refine thn (T.done (X.inner scope cl C s2 H2 fp) rfl rfl rfl hc i _ s3 _ H3 _ I3 (stat fr3) st3 stop) fun r s4 ⟨hr, I4⟩ => ?_
      subst hr
      have pD := I4.pin (D, { cls := .type "list", data := .seq its.toArray k }) (List.mem_append_right _ (List.mem_append_right _ List.mem_cons_self))
      obtain ⟨m, hn, _⟩ := id I4.loc
      refine hRR D C s4 H3 ys m (I2.leave (fp := fp) hf rfl I4 hDle pD.2.1 hz3 hv3 pD.1) pD.2.1 fin hn ?_ ?_ (fun x c e => ?_) (fun p hp => ?_) I4.free hDC
      · exact Nat.ne_of_gt (Nat.lt_of_lt_of_le I2.lt hCle')
      · exact Nat.le_trans I2.sz hCle'
      · exact Nat.ne_of_lt (Nat.lt_of_lt_of_le (I2.cellLt e) hCle')
      · exact Nat.ne_of_lt (Nat.lt_of_lt_of_le (I2.pinLt hp) hCle')
    · refine thn (T.item (X.inner scope cl C s2 H2 fp) rfl rfl rfl hc i _ s3 _ H3 _ I3 (stat fr3) st3 go) fun r s4 ⟨u, hr, h4⟩ => ?_
      subst hr
      refine thn h4 fun _ s5 ⟨x, H5, I5, r5, y5, st5, fr5⟩ => ?_
      have I5' := I5.pinned (stat fr5) (T.obj _ _ st5)
      refine thn (hg cl C s2 H2 fp _ s5 _ H5 x u _ I5' r5 (hgo _ _ _ _ (step x H5 y5))) fun _ s6 ⟨σ6, H6, I6, ⟨hl6, hs6⟩, q6⟩ => ?_
      refine thn (he cl C s2 H2 fp _ s6 σ6 H6 _ I6 q6) fun v s7 ⟨y, H7, I7, r7, n7⟩ => ?_
      obtain ⟨m', hm, w7⟩ := hN _ _ n7
      have pD := I7.pin (D, { cls := .type "list", data := .seq its.toArray k }) (List.mem_append_right _ (List.mem_append_left _ (List.mem_append_right _ List.mem_cons_self)))
      have lt : its.toArray.size ≤ sizeLine := by rw [List.size_toArray, ← hv3.length]; exact hz3
      refine call_meets F.slot_list_append ⟨_, pD.1, rfl⟩ F.entry_list_append (F.args_list_append_2 _ _) (PySem.list_append D its.toArray k v lt) ⟨pD.1, ?_⟩
      obtain ⟨k', q⟩ : ∃ k', (s7.heap.update D (Obj.mapSeq fun a => a.push v)).get? D = some { cls := .type "list", data := .seq (its.toArray.push v) k' } := ⟨_, PySem.IsL.update pD.1 (fun a => a.push v)⟩
      have eq : (its.toArray.push v) = (its ++ [v]).toArray := by simp
      have fpk : ∀ b ∈ fp, ∀ o, s5.heap.get? b = some o → s7.heap.get? b = some o ∧ H7 b = none := fun b hb o e =>
        let z := I7.pin (b, o) (List.mem_append_right _ (List.mem_append_right _ (mem_pinsAt hb e))); ⟨z.1, z.2.1⟩
      have other : ∀ b u, b ≠ D → s7.heap.get? b = some u → (s7.heap.update D (Obj.mapSeq fun a => a.push v)).get? b = some u := fun b u hb hu => (Heap.get?_update_other s7.heap (Obj.mapSeq fun a => a.push v) (Ne.symm hb)).trans hu
      have I8 : Inv (X.inner scope cl C s2 H2 fp) pins (blank js σ) H7 { s7 with heap := s7.heap.update D (Obj.mapSeq fun a => a.push v), toks := s7.toks } := by
        have Ia : Inv (X.inner scope cl C s2 H2 fp) pins σ6 H7 s7 := I7.pins_of fun p hp => I7.pin p (List.mem_append_right _ (List.mem_append_left _ (List.mem_append_left _ hp)))
        have Ib : Inv (X.inner scope cl C s2 H2 fp) pins (blank js σ) H7 s7 := Ia.weak hl6.symm fun i v e => by
          obtain ⟨hj, _⟩ := blank_get js σ i v e
          rw [hs6 i hj]; exact e
        refine Ib.turned (it := D) (fun b o hb e => other b o hb e) pD.2.1 pD.2.2.1 (.inr hDle) (fun x c e => ?_) (fun p hp => ?_)
        · exact Nat.ne_of_lt (Nat.lt_of_lt_of_le (I2.cellLt (hcl x c e)) hDle)
        · exact Nat.ne_of_lt (Nat.lt_of_lt_of_le (I2.pinLt hp) hDle)
      refine ⟨m', hm, i + 1, ys ++ [y], its ++ [v], k', H7, I8.pins_of (fun p hp => ?_), T.keep _ _ _ st5 fun b hb o e => other b o (below b (hfe b hb)).2 (fpk b hb o e).1, fun b hb => ?_, hv3.append (.cons r7 .nil), by rw [List.length_append, List.length_singleton]; omega, w7⟩
      · rcases List.mem_append.mp hp with z | z
        · exact I8.pin p (List.mem_append_right _ z)
        · have e : p = (D, _) := List.mem_singleton.mp z
          subst e
          rw [← eq]
          exact ⟨q, pD.2.1, pD.2.2.1, pD.2.2.2.1, nocell _ _⟩
      · obtain ⟨o, e, _⟩ := T.obj _ _ st5 b hb
        exact (fpk b hb o e).2
  exact codeAny_compStart_list (loop _ rfl) (T.self _ 0 _ _ _ (T.keep _ _ _ t0 fun b hb o e => old b o e) (loop _ rfl))
end
end L2
namespace L2
open PySem PySem.Spec PyProof.Rows
section
variable {X : Cx} {tg iter elt : Expr} {scope : Scope} {pos : Pos} {g : TG} {te : TE} {js : List Nat} {wi : TI}
def tComp (wi : TI) (js : List Nat) (g : TG) (te : TE) : TE := fun σ H Q => wi σ H fun J H1 => ∃ W : Nat → Nat → List V → Hp → Prop, (∃ m, W 0 m [] H1) ∧ CompW js g te J σ (fun ys H => ∀ p, H p = none → Q (.ref p) (upd H p (.lst ys))) W
theorem pe_comp (hin : innerOk X.N X.env.scope scope js = true) (hc : X.calm = true) (hi : PI X tg iter wi) (hg : ∀ cl C s H fp, PG (X.inner scope cl C s H fp) tg g) (hgo : GOk js g) (he : ∀ cl C s H fp, PE (X.inner scope cl C s H fp) elt te)
    (hs : ∀ x, foldedSetIterable iter X.env x = pure x := by intro _; rfl) : PE X (.ListComp elt [⟨tg, iter, [], 0⟩] scope pos) (tComp wi js g te) := by
  intro pins s σ H Q I h
  have hin := innerIn_of hin
  obtain ⟨cl, hclos, hcl, hfr⟩ := closure_of (scope := scope) (env := X.env) (fun x hx => I.ok.has x (hin.fr x hx)) hin.uniqF
  rw [eval_ListComp]
  refine wpAny_comprehension_free (use := none) rfl hs hclos hin.kind hin.uniqL ?_
  refine thn (hi pins s σ H _ I h) fun v s1 h1 => thn h1 fun itv s2 h2 => ?_
  obtain ⟨it, fp, tn, J, H2, e, I2, T, st2, f2, W, ⟨m0, w0⟩, turn⟩ := h2
  subst e
  refine comp_block (RR := fun acc C => compPost (model X.prog X.w) X.A X.xe none (EP X pins σ Q) acc C) hin hc hg hgo he I2 T st2 f2 hcl hfr w0 turn ?_
  intro D C s' H' ys m I' hD fin hn c1 c2 c3 c4 c5 c6
  refine ⟨m, hn, fun h' sb => ⟨.ref D, _, I'.turned (t' := s'.toks) (it := C) (fun b o hb e => (sb.2 b hb).trans e) ?_ c1 (.inr c2) c3 c4, rfl, fin D hD⟩⟩
  rw [upd_ne (Ne.symm c6)]
  exact c5
theorem ps_setC {i : Nat} {x : Str} {pos' spos : Pos} (hN : X.N.Nodup) (hix : X.N[i]? = some x) (hx : Loc X.env.scope x)
    (hin : innerOk X.N X.env.scope scope js = true) (hc : X.calm = true) (hi : PI X tg iter wi) (hg : ∀ cl C s H fp, PG (X.inner scope cl C s H fp) tg g) (hgo : GOk js g) (he : ∀ cl C s H fp, PE (X.inner scope cl C s H fp) elt te)
    (hsw : swapsWith (.ListComp elt [⟨tg, iter, [], 0⟩] scope pos) (some (.Name x pos')) spos.line X.env = pure true := by rfl)
    (hs : ∀ x, foldedSetIterable iter X.env x = pure x := by intro _; rfl)
    (hf : X.fn x = true ∨ X.env.scope.names.lookup x = some .local := by first | exact .inl rfl | exact .inr rfl | assumption) :
    PS X (.Assign [.Name x pos'] (.ListComp elt [⟨tg, iter, [], 0⟩] scope pos) spos) (tAsg (tComp wi js g te) (gName i)) := by
  intro pins s σ H D I h
  have hin := innerIn_of hin
  obtain ⟨cl, hclos, hcl, hfr⟩ := closure_of (scope := scope) (env := X.env) (fun x hx => I.ok.has x (hin.fr x hx)) hin.uniqF
  rw [exec_Assign_Name_used _ _ _ _ hsw]
  refine wpAny_bind (wpAny_standAt (wpAny_bind ?_))
  show wpAny _ _ (do let _ ← comprehension (.ListComp elt [⟨tg, iter, [], 0⟩] scope pos) scope X.env _ (newList []) false (eval iter X.env) (some (assign (.Name x pos') X.env))) _ _ s
  refine wpAny_bind (thn (wpAny_comprehension_free (use := some (assign (.Name x pos') X.env)) (Q := fun _ s' => SP X pins D .next s') rfl hs hclos hin.kind hin.uniqL ?_) (fun _ s' hq => wpAny_pure (wpAny_pure hq)))
  refine thn (hi pins s σ H _ I h) fun v s1 h1 => thn h1 fun itv s2 h2 => ?_
  obtain ⟨it, fp, tn, J, H2, e, I2, T, st2, f2, W, ⟨m0, w0⟩, turn⟩ := h2
  subst e
  refine comp_block (RR := fun acc C => compPost (model X.prog X.w) X.A X.xe (some (assign (.Name x pos') X.env)) (fun _ s' => SP X pins D .next s') acc C) hin hc hg hgo he I2 T st2 f2 hcl hfr w0 turn ?_
  intro DD C s' H' ys m I' hD fin hn c1 c2 c3 c4 c5 c6
  show wpAny _ _ (assign (.Name x pos') X.env (.ref DD)) _ _ _
  refine wpAny_assign_Name (store_ok2 (v := .ref DD) I' hN hix hx rfl (fun s'' I'' ⟨a, sb, ha⟩ => ?_) hf)
  have ne : C ≠ a := by
    rcases ha with z | z
    · rw [z]; exact c1
    · exact (c3 x a z).symm
  refine ⟨m, hn.sameBut sb ne, fun h' sb' => ⟨_, _, I''.turned (t' := s''.toks) (it := C) (fun b o hb e => (sb'.2 b hb).trans e) ?_ c1 (.inr c2) c3 c4, fin DD hD⟩⟩
  rw [upd_ne (Ne.symm c6)]
  exact c5
end
section
variable {X : Cx}
def rSlS : V → Option Int → Option Int → Hp → VK → Prop := fun x lo hi H Q => ∃ z, x = .str z ∧ z.length ≤ sizeLine ∧ Q (.str (Txt.slice z lo hi)) H
theorem sl_str : SlR X rSlS := by
  intro pins s σ H x v vl vu lo hi sl Q I rx hs pl pu h
  obtain ⟨z, rfl, hz, q⟩ := h
  obtain ⟨t, rfl⟩ := rx
  have fin : ∀ t' k, EP X pins σ Q (.str (Txt.slice z lo hi) t') { s with toks := k } := fun t' k => ⟨.str _, H, I.tok k, ⟨_, rfl⟩, q⟩
  refine ⟨"str", _, F.slot_str_getitem.lookup, typeIs_str _ _ _, ?_⟩
  obtain ⟨o, e1, e2, e3⟩ := hs
  cases pl with
  | none =>
    cases pu with
    | none => exact wpAny_getItem_str_slice (l := none) (u := none) (st := none) ⟨o, e1, e2, e3⟩ rfl (post_val_or_str ⟨Nat.le_trans (Txt.slice_le z _ _) hz, fin⟩)
    | int j uj => exact wpAny_getItem_str_slice (l := none) (u := some (j, uj)) (st := none) ⟨o, e1, e2, e3⟩ rfl (post_val_or_str ⟨Nat.le_trans (Txt.slice_le z _ _) hz, fin⟩)
  | int i ui =>
    cases pu with
    | none => exact wpAny_getItem_str_slice (l := some (i, ui)) (u := none) (st := none) ⟨o, e1, e2, e3⟩ rfl (post_val_or_str ⟨Nat.le_trans (Txt.slice_le z _ _) hz, fin⟩)
    | int j uj => exact wpAny_getItem_str_slice (l := some (i, ui)) (u := some (j, uj)) (st := none) ⟨o, e1, e2, e3⟩ rfl (post_val_or_str ⟨Nat.le_trans (Txt.slice_le z _ _) hz, fin⟩)
theorem strsAre_of {ys : List Str} : ∀ {us : List Value}, Vals (ys.map V.str) us → StrsAre us ys := by
  induction ys with
  | nil => intro us r; rw [List.map_nil] at r; cases r; exact .nil
  | cons n ns ih =>
    intro us r
    rw [List.map_cons] at r
    cases r with
    | cons r1 r2 =>
      obtain ⟨t, e⟩ := r1
      subst e
      exact .cons n t (ih r2)
def rJoin (K : PySem.W.Frag) : V → List V → Hp → VK → Prop := fun x vs H Q => ∃ sep l ys, x = .str sep ∧ vs = [.ref l] ∧ SqL K H l (ys.map V.str) ∧ (ys.map (·.length)).sum + ys.length * sep.length ≤ 16777216 ∧ Q (.str (Txt.join sep ys)) H
theorem mt_join : MtM X "str.join" (rJoin X.K) := by
  intro pins s σ H x vs v us Q I rx rv h
  obtain ⟨sep, l, ys, rfl, rfl, hl, hz, q⟩ := h
  obtain ⟨t, rfl⟩ := rx
  obtain ⟨u, rfl, ru⟩ := rv.one
  cases ru
  obtain ⟨its, r, p, _⟩ := I.list hl
  exact join_list p.isList (by simpa using strsAre_of r) hz fun t' k => ⟨.str _, H, I.tok k, ⟨_, rfl⟩, q⟩
end
end L2
namespace L2
open PySem PySem.Spec PyProof.Rows
structure Fx (P : Program) (w : World) (K : PySem.W.Frag) (mg : Str → Option Value) (base : Heap) (k : Nat) (x : Str) (ps : List Str) (sp : Sp) : Prop where
  ex : ∃ (f : Addr) (fd : FuncData), FnOk P w K mg base CX0 k f fd ps sp ∧ mg x = some (.ref f) ∧ PySem.W.keepIn K (.ref f) = true ∧ Binds K fd ps []
section
variable {X : Cx} {k j : Nat} {x : Str} {ps : List Str} {sp : Sp} {p pos : Pos} {e : Expr} {es : List Expr} {t : TA}
abbrev tFx (sp : Sp) (t : TA) : TE := fun σ H Q => t σ H fun vs H1 => sp vs H1 Q E0
theorem pe_fx (F : Fx X.prog X.w X.K X.mg X.base k x ps sp) (hr : Room j X.A) (hkj : k ≤ j) (hg : Gl X x) (ha : PA X (e :: es) t) (hdb : (x == ("__debug__" : Str)) = false := by decide)
    (he : starEach (e :: es) X.env = (false, eval e X.env) :: starEach es X.env := by rfl) (hpl : (backTo pos (starEach es X.env)).any (·.1) = false := by rfl) : PE X (.Call (.Name x p) (e :: es) [] pos) (tFx sp t) := by
  obtain ⟨f, fd, G, hm, hk, hb⟩ := F.ex
  have q := pe_call (p := p) (pos := pos) G (hr.mono hkj) hg hm hk hb .nil pass0 ha hdb he hpl
  intro pins s σ H Q I h
  refine q pins s σ H Q I ?_
  show t σ H fun vs H1 => sp (vs ++ []) H1 Q E0
  have e2 : (fun (vs : List V) (H1 : Hp) => sp (vs ++ []) H1 Q E0) = (fun vs H1 => sp vs H1 Q E0) := by
    funext vs H1; rw [List.append_nil]
  rw [e2]; exact h
end
section
variable {X : Cx}
def rAddS : R2 := fun x y H Q => ∃ i j, x = .str i ∧ y = .str j ∧ i.length + j.length ≤ sizeLine ∧ Q (.str (i ++ j)) H
def rAddA (K : PySem.W.Frag) : R2 := fun x y H Q => (rI0 fun i j => .int (i + j)) x y H Q ∨ rAddS x y H Q ∨ rCat x y H Q ∨ rCatT K x y H Q
theorem op_addA : OpR X (binaryOp .Add) (rAddA X.K) := op_add.or (op_add_str.or (op_cat.or op_catT))
theorem addA_int {K : PySem.W.Frag} {i j : Int} {H : Hp} {Q : VK} (q : Q (.int (i + j)) H) : rAddA K (.int i) (.int j) H Q := .inl ⟨i, j, rfl, rfl, q⟩
theorem addA_str {K : PySem.W.Frag} {i j : Str} {H : Hp} {Q : VK} (h : i.length + j.length ≤ 1000000) (q : Q (.str (i ++ j)) H) : rAddA K (.str i) (.str j) H Q := .inr (.inl ⟨i, j, rfl, rfl, Nat.le_trans h (by decide), q⟩)
theorem addA_lst {K : PySem.W.Frag} {a b : Addr} {xs ys : List V} {H : Hp} {Q : VK} (ha : H a = some (.lst xs)) (hb : H b = some (.lst ys)) (h : xs.length + ys.length ≤ 1000000) (q : ∀ p, H p = none → Q (.ref p) (upd H p (.lst (xs ++ ys)))) : rAddA K (.ref a) (.ref b) H Q :=
  .inr (.inr (.inl ⟨a, b, xs, ys, rfl, rfl, ha, hb, Nat.le_trans h (by decide), q⟩))
theorem rix_lst {K : PySem.W.Frag} {p : Addr} {xs : List V} {i : Int} {v : V} {H : Hp} {Q : VK} (h : H p = some (.lst xs)) (e : atI xs i = some v) (q : Q v H) : rIx K (.ref p) (.int i) H Q := .inl ⟨p, xs, i, v, rfl, rfl, .inl (.inl h), e, q⟩
theorem rix_sq {K : PySem.W.Frag} {p : Addr} {xs : List V} {i : Int} {v : V} {H : Hp} {Q : VK} (h : SqL K H p xs) (e : atI xs i = some v) (q : Q v H) : rIx K (.ref p) (.int i) H Q := .inl ⟨p, xs, i, v, rfl, rfl, h, e, q⟩
theorem rix_str {K : PySem.W.Frag} {z : Str} {i : Int} {c : Nat} {H : Hp} {Q : VK} (h : z.length ≤ 1000000) (e : atI z.cps.toList i = some c) (q : Q (.str ⟨#[c]⟩) H) : rIx K (.str z) (.int i) H Q := .inr (.inr ⟨z, i, c, rfl, rfl, Nat.le_trans h (by decide), e, q⟩)
theorem ix_any : IxR X (rIx X.K) := ix_seq
def rSlA (K : PySem.W.Frag) : V → Option Int → Option Int → Hp → VK → Prop := fun x lo hi H Q => rSlS x lo hi H Q ∨ rSlL K x lo hi H Q ∨ rSlT K x lo hi H Q
theorem sl_any : SlR X (rSlA X.K) := sl_str.or (sl_list.or sl_tup)
theorem sla_str {K : PySem.W.Frag} {z : Str} {lo hi : Option Int} {H : Hp} {Q : VK} (h : z.length ≤ 1000000) (q : Q (.str (Txt.slice z lo hi)) H) : rSlA K (.str z) lo hi H Q := .inl ⟨z, rfl, Nat.le_trans h (by decide), q⟩
theorem sla_sq {K : PySem.W.Frag} {a : Addr} {xs : List V} {lo hi : Option Int} {H : Hp} {Q : VK} (h : SqL K H a xs) (q : ∀ p, H p = none → Q (.ref p) (upd H p (.lst (cutV xs lo hi)))) : rSlA K (.ref a) lo hi H Q := .inr (.inl ⟨a, xs, rfl, h, q⟩)
theorem sla_lst {K : PySem.W.Frag} {a : Addr} {xs : List V} {lo hi : Option Int} {H : Hp} {Q : VK} (h : H a = some (.lst xs)) (q : ∀ p, H p = none → Q (.ref p) (upd H p (.lst (cutV xs lo hi)))) : rSlA K (.ref a) lo hi H Q := sla_sq (.inl (.inl h)) q
theorem set_any : PSet X rSetL := set_list
def rInA (K : PySem.W.Frag) : R2 := fun x y H Q => (∃ i j, x = .str i ∧ y = .str j ∧ Q (.bl (!(Builtin.Str.occurrences j i 0 j.length 1).isEmpty)) H) ∨ rIn K false x y H Q
theorem op_inA : OpR X (compareOp .In) (rInA X.K) := op_in_str.or op_in_seq
def rLen (K : PySem.W.Frag) : List V → Hp → VK → Prop := fun xs H Q => ∃ x n, xs = [x] ∧ LenV K x H n ∧ Q (.int n) H
theorem call_lenA : CallR X (.builtin "len") (rLen X.K) := call_len
theorem len_str_i {K : PySem.W.Frag} {z : Str} {H : Hp} {Q : VK} (h : z.length ≤ 1000000) (q : Q (.int z.length) H) : rLen K [.str z] H Q := ⟨_, _, rfl, ⟨Nat.le_trans h (by decide), rfl⟩, q⟩
theorem len_sq {K : PySem.W.Frag} {p : Addr} {xs : List V} {H : Hp} {Q : VK} (h : SqL K H p xs) (q : Q (.int xs.length) H) : rLen K [.ref p] H Q := ⟨_, _, rfl, .inl ⟨xs, h, rfl⟩, q⟩
theorem len_lst {K : PySem.W.Frag} {p : Addr} {xs : List V} {H : Hp} {Q : VK} (h : H p = some (.lst xs)) (q : Q (.int xs.length) H) : rLen K [.ref p] H Q := len_sq (.inl (.inl h)) q
abbrev iAny (K : PySem.W.Frag) (tl : TE) : TI := fun σ H R => tl σ H fun x H1 => ∃ a xs, x = .ref a ∧ ((SqL K H1 a xs ∧ R (Itl K a) H1) ∨ (SqT K H1 a xs ∧ R (Itt K a) H1))
theorem pi_any {tg l : Expr} {tl : TE} (hl : PE X l tl) : PI X tg l (iAny X.K tl) := by
  intro pins s σ H R I h
  refine thn (hl pins s σ H _ I h) fun v s1 ⟨x, H1, I1, r1, q1⟩ => ?_
  obtain ⟨a, xs, e, q⟩ := q1
  subst e
  cases r1
  rcases q with ⟨hq, q⟩ | ⟨hq, q⟩
  · obtain ⟨its, rv, p, hz⟩ := I1.list hq
    refine wpAny_pyIter_list p.isList ?_
    refine ⟨s1.heap.objs.size, [s1.heap.objs.size], _, _, H1, rfl, I1.kept (t' := s1.toks) fun b o e => Heap.get?_push_of_some _ e, turn_list a _, ⟨_, Heap.get?_push_size _ rfl, rfl, rfl⟩, fun b hb => ?_, q⟩
    have e : b = s1.heap.objs.size := by simpa using hb
    subst e
    exact I1.fpOk (Nat.le_refl _) (I1.hok.fresh (Nat.le_refl _))
  · obtain ⟨its, rv, p, hz⟩ := I1.tuple hq
    refine wpAny_pyIter_tuple (show s1.heap.IsTuple a its.toArray from p) ?_
    refine ⟨s1.heap.objs.size, [s1.heap.objs.size], _, _, H1, rfl, I1.kept (t' := s1.toks) fun b o e => Heap.get?_push_of_some _ e, turn_tuple a _, ⟨_, Heap.get?_push_size _ rfl, rfl, rfl⟩, fun b hb => ?_, q⟩
    have e : b = s1.heap.objs.size := by simpa using hb
    subst e
    exact I1.fpOk (Nat.le_refl _) (I1.hok.fresh (Nat.le_refl _))
theorem MtM.to0 {id : String} {r : V → List V → Hp → VK → Prop} (h : MtM X id r) : MtR X id r := h
end
def But (p : Addr) (H H' : Hp) : Prop := ∀ b o, b ≠ p → H b = some o → H' b = some o
theorem But.refl (p : Addr) (H : Hp) : But p H H := fun _ _ _ h => h
theorem But.trans {p : Addr} {H H1 H2 : Hp} (a : But p H H1) (b : But p H1 H2) : But p H H2 := fun c o n h => b c o n (a c o n h)
theorem Same.but {p : Addr} {H H' : Hp} (a : Same H H') : But p H H' := fun b o _ h => a b o h
theorem But.upd {p : Addr} {H : Hp} (o : HO) : But p H (upd H p o) := fun b u n h => by rw [upd_ne n]; exact h
theorem same_new {H : Hp} {p : Addr} (h : H p = none) (o : HO) : Same H (upd H p o) := fun b u q => by rw [upd_ne (ne_of_none q h)]; exact q
def Fd (H : Hp) (p : Addr) : Prop := ∃ a b : Int, H p = some (.lst [.int a, .int b])
theorem Same.fd {H H' : Hp} {p : Addr} (s : Same H H') (f : Fd H p) : Fd H' p := let ⟨a, b, e⟩ := f; ⟨a, b, s p _ e⟩
theorem Fd.new {H : Hp} {p q : Addr} {o : HO} (f : Fd H p) (h : H q = none) : Fd (upd H q o) p := (same_new h o).fd f
theorem Fd.ne {H : Hp} {p q : Addr} {xs : List V} (f : Fd H p) (h : H q = some (.tup xs)) : q ≠ p := by
  obtain ⟨a, b, e⟩ := f
  exact ne_of h e (by intro z; cases z)
end L2
namespace L2
open PySem PySem.Spec PyProof.Rows
section
variable {X : Cx}
theorem ix_K (K : PySem.W.Frag) (h : X.K = K := by rfl) : IxR X (rIx K) := by subst h; exact ix_any
theorem call_lenK (K : PySem.W.Frag) (h : X.K = K := by rfl) : CallR X (.builtin "len") (rLen K) := by subst h; exact call_lenA
theorem mt_joinK (K : PySem.W.Frag) (h : X.K = K := by rfl) : MtM X "str.join" (rJoin K) := by subst h; exact mt_join
def rListOf (K : PySem.W.Frag) : List V → Hp → VK → Prop := fun xs H Q => ∃ p ys, xs = [.ref p] ∧ (SqL K H p ys ∨ SqT K H p ys) ∧ ∀ l, H l = none → Q (.ref l) (upd H l (.lst ys))
theorem call_listK (K : PySem.W.Frag) (h : X.K = K := by rfl) : CallR X (.type "list") (rListOf K) := by subst h; exact call_list_of
def rTupleOf (K : PySem.W.Frag) : List V → Hp → VK → Prop := fun xs H Q => ∃ p ys, xs = [.ref p] ∧ ((SqL K H p ys ∧ ∀ l, H l = none → Q (.ref l) (upd H l (.tup ys))) ∨ (SqT K H p ys ∧ Q (.ref p) H))
theorem call_tupleK (K : PySem.W.Frag) (h : X.K = K := by rfl) : CallR X (.type "tuple") (rTupleOf K) := by subst h; exact call_tuple_of
theorem pg_tupK (K : PySem.W.Frag) {es : List Expr} {k : Nat} {t : TGs} {n : Nat} {pos : Pos} (hc : X.calm = true) (h : PGs X es t)
    (hn : (assignEach es X.env).length = n := by rfl) (hst : (assignEach es X.env).findIdx? (·.1) = none := by rfl) (hK : X.K = K := by rfl) : PG X (.Tuple es k pos) (gTup K n t) := by subst hK; exact pg_tup hc h hn hst
theorem pe_bm0K (K : PySem.W.Frag) {o : Expr} {to : TE} {name : Str} {apos cpos : Pos} {T id : String} {r : V → List V → Hp → VK → Prop} (pa : PlainAttrs T) (slot : Slot T name id) (hty : typeOf (.builtin id) = pure (.type "method_descriptor")) (hm : MtR X id r) (ho : PE X o to)
    (hbase : attributeBase o name X.env (eval o X.env) = eval o X.env := by rfl) (hline : (apos.endLine == cpos.line) = true := by rfl) (hK : X.K = K := by rfl) : PE X (.Call (.Attribute o name apos) [] [] cpos) (tBM0 K T r to) := by subst hK; exact pe_bm0 pa slot hty hm ho hbase hline
theorem pe_bmK (K : PySem.W.Frag) {o e : Expr} {es : List Expr} {to : TE} {t : TA} {name : Str} {apos cpos : Pos} {T id : String} {r : V → List V → Hp → VK → Prop} (pa : PlainAttrs T) (slot : Slot T name id) (hty : typeOf (.builtin id) = pure (.type "method_descriptor")) (hm : MtR X id r) (ho : PE X o to) (ha : PA X (e :: es) t)
    (hbase : attributeBase o name X.env (eval o X.env) = eval o X.env := by rfl)
    (hfew : ((backTo cpos (starEach (e :: es) X.env)).all (fun x => !x.1) && (backToKw cpos (keywordEach [] X.env)).all (fun x => x.1.isSome)
      && decide ((e :: es).length + ([] : List Keyword).length + (if ([] : List Keyword).isEmpty then 0 else 1) < 30)) = true := by rfl)
    (hline : (apos.endLine == cpos.line) = true := by rfl) (hs : starEach (e :: es) X.env = (false, eval e X.env) :: starEach es X.env := by rfl) (hplain : (backTo cpos (starEach es X.env)).any (·.1) = false := by rfl) (hK : X.K = K := by rfl) :
    PE X (.Call (.Attribute o name apos) (e :: es) [] cpos) (tBM K T r to t) := by subst hK; exact pe_bm pa slot hty hm ho ha hbase hfew hline hs hplain
theorem op_eqA : OpR X (compareOp .Eq) rEq := op_eq
theorem op_neA : OpR X (compareOp .NotEq) rNe := op_ne
end
def tx (l : List Nat) : Str := ⟨l.toArray⟩
theorem tx_self (z : Str) : z = tx z.cps.toList := by cases z; simp [tx]
theorem tx_list (l : List Nat) : (tx l).cps.toList = l := by simp [tx]
theorem tx_len (l : List Nat) : (tx l).length = l.length := by simp [tx, Str.length]
theorem tx_app (a b : List Nat) : tx a ++ tx b = tx (a ++ b) := by
  show (⟨(tx a).cps ++ (tx b).cps⟩ : Str) = _
  simp [tx]
theorem tx_inj {a b : List Nat} (h : tx a = tx b) : a = b := by
  have := congrArg (fun z : Str => z.cps.toList) h
  simpa [tx] using this
def cutN (l : List Nat) (lo hi : Option Int) : List Nat := (l.drop (HT.sIx l.length 0 lo)).take (HT.sIx l.length l.length hi - HT.sIx l.length 0 lo)
theorem pick_map (l : List Nat) (a k : Nat) (h : a + k ≤ l.length) : ((List.range k).map fun j => a + j).filterMap (fun i => l[i]?) = (l.drop a).take k := by
  apply List.ext_getElem?
  intro i
  by_cases hi : i < k
  · rw [List.getElem?_take_of_lt hi, List.getElem?_drop]
    have e : (List.map (fun j => a + j) (List.range k)).filterMap (fun i => l[i]?) = (List.range k).map fun j => l[a + j]! := by
      rw [List.filterMap_map]
      rw [show (fun i => l[i]?) ∘ (fun j => a + j) = fun j => l[a + j]? from rfl]
      have : ∀ (r : List Nat), (∀ j ∈ r, a + j < l.length) → r.filterMap (fun j => l[a + j]?) = r.map fun j => l[a + j]! := by
        intro r
        induction r with
        | nil => intro _; rfl
        | cons x r ih =>
          intro hx
          have hxl := hx x List.mem_cons_self
          rw [List.filterMap_cons, List.getElem?_eq_getElem hxl, List.map_cons, ih fun j hj => hx j (List.mem_cons_of_mem _ hj)]
          simp [hxl]
      exact this _ fun j hj => by have := List.mem_range.mp hj; omega
    rw [e, List.getElem?_map, List.getElem?_range hi]
    have hl : a + i < l.length := by omega
    simp [hl]
  · have e1 : (((List.range k).map fun j => a + j).filterMap (fun i => l[i]?)).length ≤ k := Nat.le_trans (List.length_filterMap_le _ _) (by simp)
    rw [List.getElem?_eq_none (by omega), List.getElem?_eq_none (by rw [List.length_take]; omega)]
theorem cl (i : Int) (n : Nat) : max 0 (min (if i < 0 then i + (n : Int) else i) (n : Int)) = (((if i < 0 then (i + (n : Int)).toNat else min i.toNat n) : Nat) : Int) := by
  by_cases h : i < 0
  · simp only [h, if_true]; omega
  · simp only [h, if_false]; omega
theorem tx_slice (l : List Nat) (lo hi : Option Int) : Txt.slice (tx l) lo hi = tx (cutN l lo hi) := by
  have hlen : (tx l).length = l.length := tx_len l
  have key : Builtin.Str.strSliceIndices lo hi 1 l.length = (List.range (HT.sIx l.length l.length hi - HT.sIx l.length 0 lo)).map fun j => HT.sIx l.length 0 lo + j := by
    have key0 : Builtin.Str.strSliceIndices lo hi 1 l.length = sliceRange ((HT.sIx l.length 0 lo : Nat) : Int) ((HT.sIx l.length l.length hi : Nat) : Int) 1 := by
      unfold Builtin.Str.strSliceIndices
      rcases lo with _ | i <;> rcases hi with _ | j <;> simp only [show (1:Int) > 0 by decide, if_true, HT.sIx, cl, Int.natCast_zero] <;> rfl
    rw [key0]
    unfold sliceRange
    simp only [show (1:Int) > 0 by decide, if_true]
    generalize HT.sIx l.length 0 lo = a
    generalize HT.sIx l.length l.length hi = b
    have cnt : (if (a:Int) < (b:Int) then ((b:Int) - (a:Int) + 1 - 1) / 1 else 0).toNat = b - a := by
      split <;> omega
    rw [cnt]
    apply List.map_congr_left
    intro j _
    omega
  have hle : HT.sIx l.length l.length hi ≤ l.length := HT.sIx_le _ _ (Nat.le_refl _) _
  have hlo : HT.sIx l.length 0 lo ≤ l.length := HT.sIx_le _ _ (Nat.zero_le _) _
  unfold Txt.slice
  rw [hlen, key]
  unfold cutN
  generalize HT.sIx l.length 0 lo = a at *
  generalize HT.sIx l.length l.length hi = b at *
  have e2 : (List.map (fun j => a + j) (List.range (b - a))).filterMap (fun i => (tx l).cps[i]?) = (l.drop a).take (b - a) := by
    have e3 : (fun i : Nat => (tx l).cps[i]?) = fun i => l[i]? := by funext i; simp [tx]
    rw [e3]
    by_cases hab : a ≤ b
    · exact pick_map l a (b - a) (by omega)
    · have : b - a = 0 := by omega
      rw [this]; simp
  split
  · rename_i hc
    simp only [List.length_map, List.length_range, Bool.and_eq_true, beq_iff_eq] at hc
    have h0 : a = 0 := by omega
    have h1 : b = l.length := by omega
    subst h0 h1
    simp
  · rw [e2]; rfl
def small (c : Nat) : Prop := 97 ≤ c ∧ c ≤ 122
theorem cut_to (l : List Nat) (k : Int) (h0 : 0 ≤ k) (h1 : k ≤ l.length) : cutN l none (some k) = l.take k.toNat := by
  unfold cutN
  have e1 : HT.sIx l.length 0 none = 0 := rfl
  have e2 : HT.sIx l.length l.length (some k) = k.toNat := by
    show (if k < 0 then (k + (l.length : Int)).toNat else min k.toNat l.length) = _
    rw [if_neg (by omega)]
    omega
  rw [e1, e2, List.drop_zero, Nat.sub_zero]
theorem cut_sub (l : List Nat) (lo hi : Option Int) : ∀ c ∈ cutN l lo hi, c ∈ l := fun c hc => List.mem_of_mem_drop (List.mem_of_mem_take hc)
theorem cut_len (l : List Nat) (lo hi : Option Int) : (cutN l lo hi).length ≤ l.length := by
  unfold cutN
  rw [List.length_take, List.length_drop]
  omega
theorem eqV_str (a b : List Nat) : eqV (.str (tx a)) (.str (tx b)) = decide (a = b) := by
  unfold eqV
  by_cases h : a = b
  · subst h; simp
  · rw [decide_eq_false h]
    have : tx a ≠ tx b := fun e => h (tx_inj e)
    simpa using this
theorem nodup_of {α : Type} {l : List α} (h : ∀ i j : Nat, i < j → j < l.length → l[i]? ≠ l[j]?) : l.Nodup := by
  unfold List.Nodup
  rw [List.pairwise_iff_getElem]
  intro i j hi hj hij e
  exact h i j hij hj (by rw [List.getElem?_eq_getElem hi, List.getElem?_eq_getElem hj, e])
theorem Fd.upd {H : Hp} {p l : Addr} {o : HO} (f : Fd H p) (h : l ≠ p) : Fd (L2.upd H l o) p := let ⟨a, b, e⟩ := f; ⟨a, b, by rw [upd_ne (Ne.symm h)]; exact e⟩
theorem ixN_back {n m k : Nat} (hl : n = m + k) (hk : 0 < k) : ixN n (-(k : Int)) = some m := by
  unfold ixN
  rw [hl, if_neg (by omega), if_pos (by omega)]
  congr 1
  omega
def six : List (List Nat) := [[100, 101, 102], [108, 101, 116], [116, 101, 108, 108], [108, 111, 111, 112], [112, 105, 99, 107], [99, 97, 108, 108]]
structure Good (at_ first : Int) (j : Nat) (w : List Nat) : Prop where
  sign : w[at_.toNat]? = some (97 + ((first + 7 * (j : Int)) % 26).toNat)
  small : ∀ c ∈ w, small c
  pos : 1 ≤ w.length
  len : w.length ≤ 5
  six : w ∉ six
structure Names (ws : List (List Nat)) : Prop where
  small : ∀ w ∈ ws, ∀ c ∈ w, small c
  pos : ∀ w ∈ ws, 1 ≤ w.length
  len : ∀ w ∈ ws, w.length ≤ 5
  six : ∀ w ∈ ws, w ∉ six
  nd : ws.Nodup
theorem not_six_q (w : List Nat) : w ++ [113] ∉ six := by
  intro h
  unfold six at h
  have hl : (w ++ [113]).getLast? = some 113 := by simp
  simp only [List.mem_cons, List.not_mem_nil, or_false] at h
  rcases h with h | h | h | h | h | h <;> (rw [h] at hl; exact absurd hl (by decide))
theorem Good.q {a f : Int} {j : Nat} {w : List Nat} (g : Good a f j w) (h4 : w.length ≤ 4) : Good a f j (w ++ [113]) where
  sign := by
    have hlt : a.toNat < w.length := (List.getElem?_eq_some_iff.mp g.sign).1
    rw [List.getElem?_append_left hlt]; exact g.sign
  small := fun c hc => by
    rcases List.mem_append.mp hc with z | z
    · exact g.small c z
    · have : c = 113 := by simpa using z
      subst this; exact ⟨by decide, by decide⟩
  pos := by rw [List.length_append, List.length_singleton]; omega
  len := by rw [List.length_append, List.length_singleton]; omega
  six := not_six_q w
theorem names_of {a f : Int} {ws : List (List Nat)} (h26 : ws.length ≤ 26) (g : ∀ j w, ws[j]? = some w → Good a f j w) : Names ws := by
  have mem : ∀ w ∈ ws, ∃ j, ws[j]? = some w := fun w hw => by
    obtain ⟨j, hj, e⟩ := List.getElem_of_mem hw
    exact ⟨j, by rw [List.getElem?_eq_getElem hj, e]⟩
  refine ⟨fun w hw => let ⟨j, e⟩ := mem w hw; (g j w e).small, fun w hw => let ⟨j, e⟩ := mem w hw; (g j w e).pos, fun w hw => let ⟨j, e⟩ := mem w hw; (g j w e).len, fun w hw => let ⟨j, e⟩ := mem w hw; (g j w e).six, ?_⟩
  apply nodup_of
  intro i j hij hj e
  have hi : i < ws.length := by omega
  have e1 := List.getElem?_eq_getElem hi
  have e2 := List.getElem?_eq_getElem hj
  rw [e1, e2] at e
  have e' : ws[i] = ws[j] := Option.some.inj e
  have g1 := (g i _ e1).sign
  have g2 := (g j _ e2).sign
  rw [e'] at g1
  rw [g1] at g2
  have e3 := Option.some.inj g2
  omega
theorem names_last {a f : Int} {ws : List (List Nat)} {w : List Nat} {n : Nat} (hn : ws.length = n + 2) (h26 : ws.length ≤ 26) (g : ∀ j w, ws[j]? = some w → Good a f j w) (hw : ws[n]? = some w) (h4 : w.length ≤ 4) : Names (ws.set (n + 1) (w ++ [113])) := by
  have base := names_of h26 g
  have gq := (g n w hw).q h4
  have mem : ∀ v ∈ ws.set (n + 1) (w ++ [113]), v ∈ ws ∨ v = w ++ [113] := fun v hv => (List.mem_or_eq_of_mem_set hv)
  refine ⟨fun v hv => ?_, fun v hv => ?_, fun v hv => ?_, fun v hv => ?_, ?_⟩
  · rcases mem v hv with z | z
    · exact base.small v z
    · subst z; exact gq.small
  · rcases mem v hv with z | z
    · exact base.pos v z
    · subst z; exact gq.pos
  · rcases mem v hv with z | z
    · exact base.len v z
    · subst z; exact gq.len
  · rcases mem v hv with z | z
    · exact base.six v z
    · subst z; exact gq.six
  · apply nodup_of
    intro i j hij hj e
    rw [List.length_set] at hj
    have hi : i < ws.length := by omega
    rw [List.getElem?_set_ne (by omega : n + 1 ≠ i)] at e
    have e1 := List.getElem?_eq_getElem hi
    by_cases hjn : j = n + 1
    · subst hjn
      rw [List.getElem?_set_self (by omega), e1] at e
      have e' : ws[i] = w ++ [113] := Option.some.inj e
      have g1 := (g i _ e1).sign
      rw [e', gq.sign] at g1
      have e3 := Option.some.inj g1
      have : i = n := by omega
      subst this
      rw [e1] at hw
      have e4 := Option.some.inj hw
      rw [e4] at e'
      have := congrArg List.length e'
      simp at this
    · rw [List.getElem?_set_ne (by omega)] at e
      have e2 := List.getElem?_eq_getElem hj
      rw [e1, e2] at e
      have e' : ws[i] = ws[j] := Option.some.inj e
      have g1 := (g i _ e1).sign
      have g2 := (g j _ e2).sign
      rw [e'] at g1
      rw [g1] at g2
      have e3 := Option.some.inj g2
      omega
end L2
namespace L2
open PySem PySem.Spec PyProof.Rows
section
variable {X : Cx}
def rIsi (K : PySem.W.Frag) : List V → Hp → VK → Prop := fun xs H Q => ∃ x T t b, xs = [x, .ty T] ∧ TyOf K H x t ∧ PySem.W.kitOne K t (.type T) = some b ∧ Q (.bl b) H
theorem call_isiK (K : PySem.W.Frag) (hK : X.K = K := by rfl) : CallR X (.builtin "isinstance") (rIsi K) := by
  subst hK
  intro pins s σ H xs us Q I r h
  obtain ⟨x, T, t, b, rfl, ty, e, q⟩ := h
  obtain ⟨u, v, rfl, ru, rv⟩ := r.two
  cases rv
  exact isinst_ok I ru ty e fun tk => ⟨.bl b, H, I.tok tk, rfl, q⟩
theorem all_get {xs : List V} (h : xs.all flatV = true) {i : Nat} {x : V} (e : xs[i]? = some x) : flatV x = true := List.all_eq_true.mp h x (List.mem_of_getElem? e)
def rSlW (K : PySem.W.Frag) : V → Option Int → Option Int → Hp → VK → Prop := fun x lo hi H Q => ∃ a xs, x = .ref a ∧ SqT K H a xs ∧ (HT.sIx xs.length 0 lo = 0 ∧ HT.sIx xs.length xs.length hi = xs.length) ∧ Q (.ref a) H
theorem sl_tupW : SlR X (rSlW X.K) := by
  intro pins s σ H x v vl vu lo hi sl Q I rx hs pl pu h
  obtain ⟨a, xs, rfl, hx, hw, q⟩ := h
  cases rx
  obtain ⟨its, r, ht, hz⟩ := I.tuple hx
  have hlen : its.toArray.size = xs.length := by rw [List.size_toArray]; exact r.length.symm
  refine ⟨"tuple", _, PyProof.Rows.slot_tuple_getitem.lookup, ht.typeIs, ?_⟩
  obtain ⟨os, hos, hcs, hds⟩ := id hs
  have hTs : s.TypeIs (.ref sl) "slice" := ⟨os, hos, hcs⟩
  unfold getItem
  try with_reducible refine wpAny_holding ?_
  first | refine wpAny_bind (wpAny_pure ?_) | skip
  refine wpAny_bind (wpAny_sequenceKey ht.typeIs (by decide) ?_)
  refine wpAny_bind (wpAny_callSpecial?_slot (name := Str.ofString "__getitem__") ht.typeIs PyProof.Rows.slot_tuple_getitem
    (wpAny_call_entry PyProof.Rows.slot_tuple_getitem ht.typeIs entry_tuple_getitem ?_ (args_tuple_getitem _ _)))
  show wpAny _ _ (Builtin.Tuple.tupleItemsOf (.ref a) >>= _) _ _ s
  refine wpAny_bind (tupleItemsOf_ ht ?_)
  refine wpAny_bind (wpAny_typeOf hTs ?_)
  rw [if_pos (by decide)]
  refine wpAny_bind (HT.sliceApplied_gen hs pl pu ?_)
  have hyes : ((((HT.sIx its.toArray.size 0 lo : Nat) : Int) == 0 && (1 : Int) == 1 && (HT.sIx its.toArray.size its.toArray.size hi - HT.sIx its.toArray.size 0 lo) == its.toArray.size) = true) := by
    rw [hlen, hw.1, hw.2]; simp
  show wpAny _ _ (if (((HT.sIx its.toArray.size 0 lo : Nat) : Int) == 0 && (1 : Int) == 1 && (HT.sIx its.toArray.size its.toArray.size hi - HT.sIx its.toArray.size 0 lo) == its.toArray.size) = true then _ else _) _ _ s
  rw [if_pos hyes]
  have fin : EP X pins σ Q (.ref a) s := ⟨.ref a, H, I, rfl, q⟩
  refine wpAny_bind (m := Builtin.Tuple.tupleIsExact (Value.ref a)) ?_
  unfold Builtin.Tuple.tupleIsExact
  refine wpAny_bind (wpAny_typeOf ht.typeIs (wpAny_pure ?_))
  rw [if_pos (by decide)]
  exact wpAny_bind (wpAny_rule (wpAny_pure ⟨_, rfl, wpAny_pure fin⟩))
end
end L2
namespace L2
open PySem PySem.Spec PyProof.Rows PySem.SeqAt
section
variable {X : Cx}
def rCatE (K : PySem.W.Frag) : R2 := fun x y H Q => ∃ a b ys, x = .ref a ∧ y = .ref b ∧ SqT K H a [] ∧ SqT K H b ys ∧ Q (.ref b) H
theorem op_catE : OpR X (binaryOp .Add) (rCatE X.K) := by
  intro pins s σ H x y v u Q I rx ry h
  obtain ⟨a, b, ys, rfl, rfl, ha, hb, q⟩ := h
  cases rx
  cases ry
  obtain ⟨its, r1, p1, _⟩ := I.tuple ha
  obtain ⟨its2, r2, p2, _⟩ := I.tuple hb
  cases r1
  obtain ⟨⟨cls, dd, data, sl⟩, ho, hc, n, hd⟩ := id p1
  obtain ⟨⟨cls2, dd2, data2, sl2⟩, ho2, hc2, n2, hd2⟩ := id p2
  simp only at hc hd hc2 hd2
  subst hc hd hc2 hd2
  exact concat_meets ⟨_, ho, rfl⟩ ⟨_, ho2, rfl⟩ noFill_tuple_add seq_tuple_add PySem.F.slot_tuple_add PySem.F.entry_tuple_add (PySem.F.args_tuple_add_2 _ _)
      (tuple_addW0 a b _ its2.toArray n n2 dd dd2 sl sl2 (by simp)) ⟨ho, ho2, ⟨.ref b, H, I, rfl, q⟩⟩
def rAddB (K : PySem.W.Frag) : R2 := fun x y H Q => rAddA K x y H Q ∨ rCatE K x y H Q
theorem op_addB (K : PySem.W.Frag) (h : X.K = K := by rfl) : OpR X (binaryOp .Add) (rAddB K) := by subst h; exact op_addA.or op_catE
theorem addB_int {K : PySem.W.Frag} {i j : Int} {H : Hp} {Q : VK} (q : Q (.int (i + j)) H) : rAddB K (.int i) (.int j) H Q := .inl (addA_int q)
theorem addB_str {K : PySem.W.Frag} {i j : Str} {H : Hp} {Q : VK} (h : i.length + j.length ≤ 1000000) (q : Q (.str (i ++ j)) H) : rAddB K (.str i) (.str j) H Q := .inl (addA_str h q)
theorem addB_lst {K : PySem.W.Frag} {a b : Addr} {xs ys : List V} {H : Hp} {Q : VK} (ha : H a = some (.lst xs)) (hb : H b = some (.lst ys)) (h : xs.length + ys.length ≤ 1000000) (q : ∀ p, H p = none → Q (.ref p) (upd H p (.lst (xs ++ ys)))) : rAddB K (.ref a) (.ref b) H Q := .inl (addA_lst ha hb h q)
def rSlB (K : PySem.W.Frag) : V → Option Int → Option Int → Hp → VK → Prop := fun x lo hi H Q => rSlA K x lo hi H Q ∨ rSlW K x lo hi H Q
theorem sl_B (K : PySem.W.Frag) (h : X.K = K := by rfl) : SlR X (rSlB K) := by subst h; exact sl_any.or sl_tupW
theorem slb_str {K : PySem.W.Frag} {z : Str} {lo hi : Option Int} {H : Hp} {Q : VK} (h : z.length ≤ 1000000) (q : Q (.str (Txt.slice z lo hi)) H) : rSlB K (.str z) lo hi H Q := .inl (sla_str h q)
theorem slb_sq {K : PySem.W.Frag} {a : Addr} {xs : List V} {lo hi : Option Int} {H : Hp} {Q : VK} (h : SqL K H a xs) (q : ∀ p, H p = none → Q (.ref p) (upd H p (.lst (cutV xs lo hi)))) : rSlB K (.ref a) lo hi H Q := .inl (sla_sq h q)
theorem slb_lst {K : PySem.W.Frag} {a : Addr} {xs : List V} {lo hi : Option Int} {H : Hp} {Q : VK} (h : H a = some (.lst xs)) (q : ∀ p, H p = none → Q (.ref p) (upd H p (.lst (cutV xs lo hi)))) : rSlB K (.ref a) lo hi H Q := .inl (sla_lst h q)
def rUpper : V → List V → Hp → VK → Prop := fun x vs H Q => ∃ l, x = .str (tx l) ∧ vs = [] ∧ (∀ c ∈ l, c < 128) ∧ l.length ≤ 1000000 ∧ Q (.str (tx (l.map up1))) H
theorem mt_upper : MtM X "str.upper" rUpper := by
  intro pins s σ H x vs v us Q I rx rv h
  obtain ⟨l, rfl, rfl, hA, hz, q⟩ := h
  obtain ⟨t, rfl⟩ := rx
  cases rv.zero
  have e : Txt.upper (tx l) = tx (l.map up1) := by
    rw [upper_ascii (by rw [tx_list]; exact hA)]
    simp [tx]
  refine SC.upper (by rw [e, tx_len, List.length_map]; exact decide_eq_false (by have : sizeLine = 16777216 := sizeLine_eq; omega)) ⟨.str (tx (l.map up1)), H, I.tok _, ⟨_, by rw [e]⟩, q⟩
end
def Tup (H H' : Hp) : Prop := ∀ b xs, H b = some (.tup xs) → H' b = some (.tup xs)
theorem Same.tups {H H' : Hp} (s : Same H H') : Tup H H' := fun b xs h => s b _ h
theorem But.tups {p : Addr} {H H' : Hp} (s : But p H H') (f : Fd H p) : Tup H H' := fun b xs h => s b _ (f.ne h) h
theorem Tup.trans {H H1 H2 : Hp} (a : Tup H H1) (b : Tup H1 H2) : Tup H H2 := fun c xs h => b c xs (a c xs h)
end L2
namespace L2
open PySem PySem.Spec PyProof.Rows
section
variable {prog : Program} {w : World} {A : Around} {E : Value → Shared → Prop}
end
section
variable {X : Cx}
end
theorem sq_lst {K : PySem.W.Frag} {H : Hp} {a : Addr} {xs : List V} (h : H a = some (.lst xs)) : SqL K H a xs := .inl (.inl h)
theorem sq_tup {K : PySem.W.Frag} {H : Hp} {a : Addr} {xs : List V} (h : H a = some (.tup xs)) : SqT K H a xs := .inl (.inl h)
end L2
namespace L2
open PySem PySem.Spec PyProof.Rows PySem.SeqAt
inductive D where
  | fl (v : V)
  | tup (ds : List D)
  | lst (ds : List D)
mutual
def eqD : D → D → Bool
  | .fl a, .fl b => eqV a b
  | .tup a, .tup b => eqDs a b
  | .lst a, .lst b => eqDs a b
  | _, _ => false
def eqDs : List D → List D → Bool
  | [], [] => true
  | x :: xs, y :: ys => eqD x y && eqDs xs ys
  | _, _ => false
end
mutual
def D.dep : D → Nat
  | .fl _ => 0
  | .tup ds => depL ds + 1
  | .lst ds => depL ds + 1
def depL : List D → Nat
  | [] => 0
  | d :: ds => max d.dep (depL ds)
end
mutual
def Is (H : Hp) : V → D → Prop
  | x, .fl v => x = v ∧ flatV v = true
  | x, .tup ds => ∃ a xs, x = .ref a ∧ H a = some (.tup xs) ∧ IsL H xs ds
  | x, .lst ds => ∃ a xs, x = .ref a ∧ H a = some (.lst xs) ∧ IsL H xs ds
def IsL (H : Hp) : List V → List D → Prop
  | [], [] => True
  | x :: xs, d :: ds => Is H x d ∧ IsL H xs ds
  | _, _ => False
end
theorem IsL.nil {H : Hp} : IsL H [] [] := by unfold IsL; trivial
theorem IsL.cons {H : Hp} {x : V} {d : D} {xs : List V} {ds : List D} (h : Is H x d) (t : IsL H xs ds) : IsL H (x :: xs) (d :: ds) := by unfold IsL; exact ⟨h, t⟩
theorem IsL.inv {H : Hp} {x : V} {xs : List V} {es : List D} (h : IsL H (x :: xs) es) : ∃ d ds, es = d :: ds ∧ Is H x d ∧ IsL H xs ds := by
  cases es with
  | nil => unfold IsL at h; exact h.elim
  | cons d ds => unfold IsL at h; exact ⟨d, ds, rfl, h.1, h.2⟩
theorem IsL.length {H : Hp} : ∀ {xs : List V} {ds : List D}, IsL H xs ds → xs.length = ds.length
  | [], [], _ => rfl
  | [], _ :: _, h => by unfold IsL at h; exact h.elim
  | _ :: _, [], h => by unfold IsL at h; exact h.elim
  | x :: xs, d :: ds, h => by unfold IsL at h; rw [List.length_cons, List.length_cons, IsL.length h.2]
theorem IsL.get {H : Hp} : ∀ {xs : List V} {ds : List D} {i : Nat} {d : D}, IsL H xs ds → ds[i]? = some d → ∃ x, xs[i]? = some x ∧ Is H x d
  | [], [], _, _, _, e => by simp at e
  | [], _ :: _, _, _, h, _ => by unfold IsL at h; exact h.elim
  | _ :: _, [], _, _, _, e => by simp at e
  | x :: xs, d :: ds, 0, d', h, e => by
    unfold IsL at h
    have : d = d' := by simpa using e
    subst this
    exact ⟨x, rfl, h.1⟩
  | x :: xs, d :: ds, i + 1, _, h, e => by
    unfold IsL at h
    obtain ⟨y, e1, e2⟩ := IsL.get (i := i) h.2 (by simpa using e)
    exact ⟨y, by simpa using e1, e2⟩
theorem IsL.app {H : Hp} : ∀ {xs ys : List V} {ds es : List D}, IsL H xs ds → IsL H ys es → IsL H (xs ++ ys) (ds ++ es)
  | [], _, [], _, _, t => t
  | [], _, _ :: _, _, h, _ => by unfold IsL at h; exact h.elim
  | _ :: _, _, [], _, h, _ => by unfold IsL at h; exact h.elim
  | x :: xs, ys, d :: ds, es, h, t => by
    unfold IsL at h
    exact IsL.cons h.1 (IsL.app h.2 t)
theorem IsL.snoc {H : Hp} {xs : List V} {ds : List D} {x : V} {d : D} (h : IsL H xs ds) (t : Is H x d) : IsL H (xs ++ [x]) (ds ++ [d]) := h.app (IsL.cons t IsL.nil)
mutual
def D.pure : D → Bool
  | .fl _ => true
  | .tup ds => pureL ds
  | .lst _ => false
def pureL : List D → Bool
  | [] => true
  | d :: ds => d.pure && pureL ds
end
mutual
theorem Is.mono {H H' : Hp} (t : Tup H H') : ∀ {d : D} {x : V}, d.pure = true → Is H x d → Is H' x d
  | .fl v, x, _, h => by unfold Is at h ⊢; exact h
  | .tup ds, x, p, h => by
    unfold Is at h ⊢
    unfold D.pure at p
    obtain ⟨a, xs, e, h1, h2⟩ := h
    exact ⟨a, xs, e, t _ _ h1, IsL.mono t p h2⟩
  | .lst ds, x, p, h => by unfold D.pure at p; cases p
theorem IsL.mono {H H' : Hp} (t : Tup H H') : ∀ {ds : List D} {xs : List V}, pureL ds = true → IsL H xs ds → IsL H' xs ds
  | [], [], _, h => IsL.nil
  | [], _ :: _, _, h => by unfold IsL at h; exact h.elim
  | _ :: _, [], _, h => by unfold IsL at h; exact h.elim
  | d :: ds, x :: xs, p, h => by
    unfold IsL at h
    unfold pureL at p
    rw [Bool.and_eq_true] at p
    exact IsL.cons (Is.mono t p.1 h.1) (IsL.mono t p.2 h.2)
end
mutual
theorem Is.inj {H : Hp} : ∀ {d e : D} {x : V}, Is H x d → Is H x e → d = e
  | .fl v, e, x, h, k => by
    unfold Is at h
    obtain ⟨rfl, hf⟩ := h
    cases e with
    | fl u => unfold Is at k; rw [k.1]
    | tup es => unfold Is at k; obtain ⟨a, xs, rfl, _⟩ := k; cases hf
    | lst es => unfold Is at k; obtain ⟨a, xs, rfl, _⟩ := k; cases hf
  | .tup ds, e, x, h, k => by
    unfold Is at h
    obtain ⟨a, xs, rfl, h1, h2⟩ := h
    cases e with
    | fl u => unfold Is at k; obtain ⟨k1, k2⟩ := k; rw [← k1] at k2; cases k2
    | tup es =>
      unfold Is at k
      obtain ⟨b, ys, e, k1, k2⟩ := k
      cases e
      rw [h1] at k1
      cases k1
      rw [IsL.inj h2 k2]
    | lst es => unfold Is at k; obtain ⟨b, ys, e, k1, k2⟩ := k; cases e; rw [h1] at k1; cases k1
  | .lst ds, e, x, h, k => by
    unfold Is at h
    obtain ⟨a, xs, rfl, h1, h2⟩ := h
    cases e with
    | fl u => unfold Is at k; obtain ⟨k1, k2⟩ := k; rw [← k1] at k2; cases k2
    | lst es =>
      unfold Is at k
      obtain ⟨b, ys, e, k1, k2⟩ := k
      cases e
      rw [h1] at k1
      cases k1
      rw [IsL.inj h2 k2]
    | tup es => unfold Is at k; obtain ⟨b, ys, e, k1, k2⟩ := k; cases e; rw [h1] at k1; cases k1
theorem IsL.inj {H : Hp} : ∀ {ds es : List D} {xs : List V}, IsL H xs ds → IsL H xs es → ds = es
  | [], es, [], h, k => by
    cases es with
    | nil => rfl
    | cons e es => unfold IsL at k; exact k.elim
  | [], _, _ :: _, h, _ => by unfold IsL at h; exact h.elim
  | _ :: _, _, [], h, _ => by unfold IsL at h; exact h.elim
  | d :: ds, es, x :: xs, h, k => by
    unfold IsL at h
    obtain ⟨e, es', rfl, k1, k2⟩ := k.inv
    rw [Is.inj h.1 k1, IsL.inj h.2 k2]
end
theorem eqV_refl {v : V} (h : flatV v = true) : eqV v v = true := by
  cases v <;> first | rfl | (simp [eqV]; done) | cases h
mutual
theorem eqD_refl {H : Hp} : ∀ {d : D} {x : V}, Is H x d → eqD d d = true
  | .fl v, x, h => by unfold Is at h; unfold eqD; exact eqV_refl h.2
  | .tup ds, x, h => by unfold Is at h; obtain ⟨_, _, _, _, h2⟩ := h; unfold eqD; exact eqDs_refl h2
  | .lst ds, x, h => by unfold Is at h; obtain ⟨_, _, _, _, h2⟩ := h; unfold eqD; exact eqDs_refl h2
theorem eqDs_refl {H : Hp} : ∀ {ds : List D} {xs : List V}, IsL H xs ds → eqDs ds ds = true
  | [], _, _ => by unfold eqDs; rfl
  | _ :: _, [], h => by unfold IsL at h; exact h.elim
  | d :: ds, x :: xs, h => by
    unfold IsL at h
    unfold eqDs
    rw [eqD_refl h.1, eqDs_refl h.2]; rfl
end
theorem eqDs_range : ∀ (xs ys : List D) (e : Nat → Bool), (∀ i x y, xs[i]? = some x → ys[i]? = some y → e i = eqD x y) → ((List.range (min xs.length ys.length)).all e && xs.length == ys.length) = eqDs xs ys
  | [], [], _, _ => by unfold eqDs; rfl
  | [], _ :: _, _, _ => by unfold eqDs; simp
  | _ :: _, [], _, _ => by unfold eqDs; simp
  | x :: xs, y :: ys, e, h => by
    have ih := eqDs_range xs ys (fun i => e (i + 1)) fun i a b h1 h2 => h (i + 1) a b (by simpa using h1) (by simpa using h2)
    have h0 := h 0 x y rfl rfl
    unfold eqDs
    rw [← ih, ← h0, List.length_cons, List.length_cons, Nat.succ_min_succ, List.range_succ_eq_map, List.all_cons, List.all_map]
    have : ((xs.length + 1 == ys.length + 1) : Bool) = (xs.length == ys.length) := by simp
    rw [this, Bool.and_assoc]
    rfl
theorem dep_mem : ∀ {ds : List D} {i : Nat} {d : D}, ds[i]? = some d → d.dep ≤ depL ds
  | [], _, _, e => by simp at e
  | d :: ds, 0, d', e => by
    have : d = d' := by simpa using e
    subst this
    show d.dep ≤ depL (d :: ds)
    unfold depL
    exact Nat.le_max_left _ _
  | d :: ds, i + 1, x, e => by
    have := dep_mem (ds := ds) (i := i) (d := x) (by simpa using e)
    unfold depL
    exact Nat.le_trans this (Nat.le_max_right _ _)
section
variable {X : Cx} {pins : List (Addr × Obj)} {σ : St} {H : Hp} {s : Shared}
def eAt (ds es : List D) (i : Nat) : Bool := match ds[i]?, es[i]? with | some a, some b => eqD a b | _, _ => true
theorem eAt_of {ds es : List D} {i : Nat} {a b : D} (h1 : ds[i]? = some a) (h2 : es[i]? = some b) : eAt ds es i = eqD a b := by unfold eAt; rw [h1, h2]
theorem flat_cases {x : V} (h : flatV x = true) : x = .non ∨ (∃ b, x = .bl b) ∨ (∃ i, x = .int i) ∨ ∃ z, x = .str z := by
  cases x with
  | non => exact .inl rfl
  | bl b => exact .inr (.inl ⟨b, rfl⟩)
  | int i => exact .inr (.inr (.inl ⟨i, rfl⟩))
  | str z => exact .inr (.inr (.inr ⟨z, rfl⟩))
  | _ => cases h
theorem eqAt_D (I : Inv X pins σ H s) : ∀ (n : Nat) (A : Around) (d e : D) (x y : V) (u v : Value), d.dep ≤ n → A.units + n < cLine → RelV x u → RelV y v → Is H x d → Is H y e → EqAt A s u v (eqD d e) := by
  intro n
  induction n with
  | zero =>
    intro A d e x y u v hd hu rx ry hx hy
    cases d with
    | fl a =>
      unfold Is at hx
      obtain ⟨rfl, fx⟩ := hx
      cases e with
      | fl b => unfold Is at hy; obtain ⟨rfl, fy⟩ := hy; unfold eqD; exact eqAt_V rx ry fx fy
      | tup es =>
        unfold Is at hy
        obtain ⟨b, ys, rfl, h1, h2⟩ := hy
        cases ry
        obtain ⟨its, r, ht, _⟩ := I.tuple (sq_tup h1)
        unfold eqD
        rcases flat_cases fx with rfl | ⟨c, rfl⟩ | ⟨c, rfl⟩ | ⟨c, rfl⟩
        · cases rx; exact EqAt.none_tuple ht hu
        · cases rx; exact EqAt.bool_tuple c ht hu
        · obtain ⟨t, rfl⟩ := rx; exact EqAt.int_tuple c t ht hu
        · obtain ⟨t, rfl⟩ := rx; exact EqAt.str_tuple c t ht hu
      | lst es =>
        unfold Is at hy
        obtain ⟨b, ys, rfl, h1, h2⟩ := hy
        cases ry
        obtain ⟨its, r, ht, _⟩ := I.list (sq_lst h1)
        unfold eqD
        rcases flat_cases fx with rfl | ⟨c, rfl⟩ | ⟨c, rfl⟩ | ⟨c, rfl⟩
        · cases rx; exact EqAt.none_list ht.isList hu
        · cases rx; exact EqAt.bool_list c ht.isList hu
        · obtain ⟨t, rfl⟩ := rx; exact EqAt.int_list c t ht.isList hu
        · obtain ⟨t, rfl⟩ := rx; exact EqAt.str_list c t ht.isList hu
    | tup ds => unfold D.dep at hd; omega
    | lst ds => unfold D.dep at hd; omega
  | succ n ih =>
    intro A d e x y u v hd hu rx ry hx hy
    have hu0 : A.units < cLine := by omega
    cases d with
    | fl a => exact ih A (.fl a) e x y u v (by unfold D.dep; omega) (by omega) rx ry hx hy
    | tup ds =>
      unfold D.dep at hd
      have hx0 := hx
      unfold Is at hx
      obtain ⟨a, xs, rfl, h1, h2⟩ := hx
      cases rx
      obtain ⟨its, r, ht, _⟩ := I.tuple (sq_tup h1)
      cases e with
      | fl b =>
        unfold Is at hy
        obtain ⟨rfl, fy⟩ := hy
        unfold eqD
        rcases flat_cases fy with rfl | ⟨c, rfl⟩ | ⟨c, rfl⟩ | ⟨c, rfl⟩
        · cases ry; exact EqAt.tuple_none ht hu0
        · cases ry; exact EqAt.tuple_bool c ht hu0
        · obtain ⟨t, rfl⟩ := ry; exact EqAt.tuple_int c t ht hu0
        · obtain ⟨t, rfl⟩ := ry; exact EqAt.tuple_str c t ht hu0
      | tup es =>
        have hy0 := hy
        unfold Is at hy
        obtain ⟨b, ys, rfl, k1, k2⟩ := hy
        cases ry
        obtain ⟨its2, r2, ht2, _⟩ := I.tuple (sq_tup k1)
        by_cases hab : a = b
        · subst hab
          rw [Is.inj hx0 hy0, eqD_refl hy0]
          exact EqAt.same _
        · refine EqAt.of_refs hab ?_
          have q := RcAt.tuples (e := eAt ds es) ht ht2 hu0 (fun j j1 j2 => ?_)
          · have e1 := eqDs_range ds es (eAt ds es) fun i a b q1 q2 => eAt_of q1 q2
            rw [List.size_toArray, List.size_toArray, ← r.length, ← r2.length, h2.length, k2.length, e1] at q
            unfold eqD
            exact q
          · have j1' : j < its.length := by simpa using j1
            have j2' : j < its2.length := by simpa using j2
            have l1 : j < ds.length := by rw [← h2.length, r.length]; exact j1'
            have l2 : j < es.length := by rw [← k2.length, r2.length]; exact j2'
            obtain ⟨x', ex, px⟩ := h2.get (i := j) (List.getElem?_eq_getElem l1)
            obtain ⟨y', ey, py⟩ := k2.get (i := j) (List.getElem?_eq_getElem l2)
            obtain ⟨u', eu, ru⟩ := r.get ex
            obtain ⟨v', ev, rv⟩ := r2.get ey
            rw [eAt_of (List.getElem?_eq_getElem l1) (List.getElem?_eq_getElem l2)]
            have z1 : its.toArray[j] = u' := by rw [List.getElem?_eq_getElem j1'] at eu; simpa using Option.some.inj eu
            have z2 : its2.toArray[j] = v' := by rw [List.getElem?_eq_getElem j2'] at ev; simpa using Option.some.inj ev
            rw [z1, z2]
            exact ih A.in1 _ _ x' y' u' v' (Nat.le_trans (dep_mem (List.getElem?_eq_getElem l1)) (by omega)) (by show A.units + 1 + n < cLine; omega) ru rv px py
      | lst es =>
        unfold Is at hy
        obtain ⟨b, ys, rfl, k1, k2⟩ := hy
        cases ry
        obtain ⟨its2, r2, ht2, _⟩ := I.list (sq_lst k1)
        unfold eqD
        exact EqAt.tuple_list ht ht2.isList hu0
    | lst ds =>
      unfold D.dep at hd
      have hx0 := hx
      unfold Is at hx
      obtain ⟨a, xs, rfl, h1, h2⟩ := hx
      cases rx
      obtain ⟨its, r, ht, _⟩ := I.list (sq_lst h1)
      cases e with
      | fl b =>
        unfold Is at hy
        obtain ⟨rfl, fy⟩ := hy
        unfold eqD
        rcases flat_cases fy with rfl | ⟨c, rfl⟩ | ⟨c, rfl⟩ | ⟨c, rfl⟩
        · cases ry; exact EqAt.list_none ht.isList hu0
        · cases ry; exact EqAt.list_bool c ht.isList hu0
        · obtain ⟨t, rfl⟩ := ry; exact EqAt.list_int c t ht.isList hu0
        · obtain ⟨t, rfl⟩ := ry; exact EqAt.list_str c t ht.isList hu0
      | tup es =>
        unfold Is at hy
        obtain ⟨b, ys, rfl, k1, k2⟩ := hy
        cases ry
        obtain ⟨its2, r2, ht2, _⟩ := I.tuple (sq_tup k1)
        unfold eqD
        exact EqAt.list_tuple ht.isList ht2 hu0
      | lst es =>
        have hy0 := hy
        unfold Is at hy
        obtain ⟨b, ys, rfl, k1, k2⟩ := hy
        cases ry
        obtain ⟨its2, r2, ht2, _⟩ := I.list (sq_lst k1)
        by_cases hab : a = b
        · subst hab
          rw [Is.inj hx0 hy0, eqD_refl hy0]
          exact EqAt.same _
        · refine EqAt.of_refs hab ?_
          by_cases hsz : ds.length = es.length
          · have e1 := eqDs_range ds es (eAt ds es) fun i a b q1 q2 => eAt_of q1 q2
            rw [hsz, Nat.min_self, beq_self_eq_true, Bool.and_true] at e1
            have q := RcAt.lists (e := eAt ds es) ht.isList ht2.isList (by rw [List.size_toArray, List.size_toArray, ← r.length, ← r2.length, h2.length, k2.length]; exact hsz) hu0 (fun j j1 j2 => ?_)
            · rw [List.size_toArray, ← r.length, h2.length, hsz, e1] at q
              unfold eqD
              exact q
            · have j1' : j < its.length := by simpa using j1
              have j2' : j < its2.length := by simpa using j2
              have l1 : j < ds.length := by rw [← h2.length, r.length]; exact j1'
              have l2 : j < es.length := by rw [← k2.length, r2.length]; exact j2'
              obtain ⟨x', ex, px⟩ := h2.get (i := j) (List.getElem?_eq_getElem l1)
              obtain ⟨y', ey, py⟩ := k2.get (i := j) (List.getElem?_eq_getElem l2)
              obtain ⟨u', eu, ru⟩ := r.get ex
              obtain ⟨v', ev, rv⟩ := r2.get ey
              rw [eAt_of (List.getElem?_eq_getElem l1) (List.getElem?_eq_getElem l2)]
              have z1 : its.toArray[j] = u' := by rw [List.getElem?_eq_getElem j1'] at eu; simpa using Option.some.inj eu
              have z2 : its2.toArray[j] = v' := by rw [List.getElem?_eq_getElem j2'] at ev; simpa using Option.some.inj ev
              rw [z1, z2]
              exact ih A.in1 _ _ x' y' u' v' (Nat.le_trans (dep_mem (List.getElem?_eq_getElem l1)) (by omega)) (by show A.units + 1 + n < cLine; omega) ru rv px py
          · have q := RcAt.lists_lengths (A := A) ht.isList ht2.isList (by rw [List.size_toArray, List.size_toArray, ← r.length, ← r2.length, h2.length, k2.length]; simpa using hsz) hu0
            have e1 := eqDs_range ds es (eAt ds es) fun i a b q1 q2 => eAt_of q1 q2
            have : (ds.length == es.length) = false := by simpa using hsz
            rw [this, Bool.and_false] at e1
            unfold eqD
            rw [← e1]
            exact q
end
end L2
namespace L2
open PySem PySem.Spec PyProof.Rows
inductive T where
  | leaf (k : Str) (v : V)
  | op (s : Str) (m n : T)
  | many (k w : Str) (ts : List T)
  | lett (x : Str) (a b : T)
  | loop (i : Str) (n : T) (x : Str) (a b : T)
  | pick (n : T) (ts : List T)
abbrev sD (x : Str) : D := .fl (.str x)
mutual
def T.toD : T → D
  | .leaf k v => .tup [sD k, .fl v]
  | .op s m n => .tup [sD "op", sD s, m.toD, n.toD]
  | .many k w ts => .tup [sD k, sD w, .tup (toDs ts)]
  | .lett x a b => .tup [sD "let", sD x, a.toD, b.toD]
  | .loop i n x a b => .tup [sD "loop", sD i, n.toD, sD x, a.toD, b.toD]
  | .pick n ts => .tup [sD "pick", n.toD, .tup (toDs ts)]
def toDs : List T → List D
  | [] => []
  | t :: ts => t.toD :: toDs ts
end
theorem toDs_map : ∀ ts : List T, toDs ts = ts.map T.toD
  | [] => rfl
  | t :: ts => by unfold toDs; rw [toDs_map ts]; rfl
mutual
def T.size : T → Nat
  | .leaf _ _ => 1
  | .op _ m n => 1 + m.size + n.size
  | .many _ _ ts => 1 + sizes ts
  | .lett _ a b => 1 + a.size + b.size
  | .loop _ n _ a b => 1 + n.size + a.size + b.size
  | .pick n ts => 1 + n.size + sizes ts
def sizes : List T → Nat
  | [] => 0
  | t :: ts => t.size + sizes ts
end
mutual
def T.far : T → Nat
  | .leaf _ _ => 0
  | .op _ m n => 1 + max m.far n.far
  | .many _ _ ts => 1 + fars ts
  | .lett _ a b => 1 + max a.far b.far
  | .loop _ n _ a b => 1 + max n.far (max a.far b.far)
  | .pick n ts => 1 + max n.far (fars ts)
def fars : List T → Nat
  | [] => 0
  | t :: ts => max t.far (fars ts)
end
def T.kids : T → List T
  | .leaf _ _ => []
  | .op _ m n => [m, n]
  | .many _ _ ts => ts
  | .lett _ a b => [a, b]
  | .loop _ n _ a b => [n, a, b]
  | .pick n ts => n :: ts
mutual
def T.ok : T → Bool
  | .leaf k v => (k == ("num" : Str) || k == ("count" : Str) || k == ("name" : Str) || k == ("fixed" : Str) || k == ("input" : Str)) && flatV v
  | .op _ m n => m.ok && n.ok
  | .many k _ ts => (k == ("do" : Str) || k == ("call" : Str)) && oks ts
  | .lett _ a b => a.ok && b.ok
  | .loop _ n _ a b => n.ok && a.ok && b.ok
  | .pick n ts => n.ok && oks ts
def oks : List T → Bool
  | [] => true
  | t :: ts => t.ok && oks ts
end
mutual
theorem T.pure_ : ∀ t : T, t.toD.pure = true
  | .leaf k v => by unfold T.toD; simp [D.pure, pureL]
  | .op s m n => by unfold T.toD; simp [D.pure, pureL, T.pure_ m, T.pure_ n]
  | .many k w ts => by unfold T.toD; simp [D.pure, pureL, pures ts]
  | .lett x a b => by unfold T.toD; simp [D.pure, pureL, T.pure_ a, T.pure_ b]
  | .loop i n x a b => by unfold T.toD; simp [D.pure, pureL, T.pure_ n, T.pure_ a, T.pure_ b]
  | .pick n ts => by unfold T.toD; simp [D.pure, pureL, T.pure_ n, pures ts]
theorem pures : ∀ ts : List T, pureL (toDs ts) = true
  | [] => by unfold toDs; rfl
  | t :: ts => by unfold toDs; simp [pureL, T.pure_ t, pures ts]
end
mutual
theorem T.dep_le : ∀ t : T, t.toD.dep ≤ 2 * t.far + 1
  | .leaf k v => by unfold T.toD; simp [D.dep, depL, T.far]
  | .op s m n => by
    have := T.dep_le m; have := T.dep_le n
    unfold T.toD; simp only [D.dep, depL, T.far]; omega
  | .many k w ts => by
    have := deps_le ts
    unfold T.toD; simp only [D.dep, depL, T.far]; omega
  | .lett x a b => by
    have := T.dep_le a; have := T.dep_le b
    unfold T.toD; simp only [D.dep, depL, T.far]; omega
  | .loop i n x a b => by
    have := T.dep_le n; have := T.dep_le a; have := T.dep_le b
    unfold T.toD; simp only [D.dep, depL, T.far]; omega
  | .pick n ts => by
    have := T.dep_le n; have := deps_le ts
    unfold T.toD; simp only [D.dep, depL, T.far]; omega
theorem deps_le : ∀ ts : List T, depL (toDs ts) ≤ 2 * fars ts + 1
  | [] => by unfold toDs; simp [depL, fars]
  | t :: ts => by
    have := T.dep_le t; have := deps_le ts
    unfold toDs; simp only [depL, fars]; omega
end
abbrev IsT (H : Hp) (v : V) (t : T) : Prop := Is H v t.toD
theorem IsT.mono {H H' : Hp} {v : V} {t : T} (h : Tup H H') (k : IsT H v t) : IsT H' v t := Is.mono h t.pure_ k
end L2
namespace L2
open PySem PySem.Spec PyProof.Rows PySem.SeqAt
def D.seq : D → Bool
  | .fl _ => false
  | _ => true
section
variable {X : Cx} {pins : List (Addr × Obj)} {σ : St} {H : Hp} {s : Shared}
theorem items_eq (I : Inv X pins σ H s) {n : Nat} {A : Around} {xs ys : List V} {ds es : List D} {its its2 : List Value} (hd : depL ds ≤ n) (hu : A.units + 1 + n < cLine) (r : Vals xs its) (r2 : Vals ys its2) (h2 : IsL H xs ds) (k2 : IsL H ys es) :
    ∀ j (h1 : j < its.toArray.size) (h2 : j < its2.toArray.size), EqAt A.in1 s its.toArray[j] its2.toArray[j] (eAt ds es j) := fun j j1 j2 => by
  have j1' : j < its.length := by simpa using j1
  have j2' : j < its2.length := by simpa using j2
  have l1 : j < ds.length := by rw [← h2.length, r.length]; exact j1'
  have l2 : j < es.length := by rw [← k2.length, r2.length]; exact j2'
  obtain ⟨x', ex, px⟩ := h2.get (i := j) (List.getElem?_eq_getElem l1)
  obtain ⟨y', ey, py⟩ := k2.get (i := j) (List.getElem?_eq_getElem l2)
  obtain ⟨u', eu, ru⟩ := r.get ex
  obtain ⟨v', ev, rv⟩ := r2.get ey
  rw [eAt_of (List.getElem?_eq_getElem l1) (List.getElem?_eq_getElem l2)]
  have z1 : its.toArray[j] = u' := by rw [List.getElem?_eq_getElem j1'] at eu; simpa using Option.some.inj eu
  have z2 : its2.toArray[j] = v' := by rw [List.getElem?_eq_getElem j2'] at ev; simpa using Option.some.inj ev
  rw [z1, z2]
  exact eqAt_D I n A.in1 _ _ x' y' u' v' (Nat.le_trans (dep_mem (List.getElem?_eq_getElem l1)) hd) (by show A.units + 1 + n < cLine; exact hu) ru rv px py
theorem rcAt_D (I : Inv X pins σ H s) {A : Around} {d e : D} {x y : V} {u v : Value} (sd : d.seq = true) (se : e.seq = true) (hu : A.units + d.dep + 1 < cLine) (rx : RelV x u) (ry : RelV y v) (hx : Is H x d) (hy : Is H y e) : RcAt A s u v (eqD d e) ∧ RcNeAt A s u v (!eqD d e) := by
  have hu0 : A.units < cLine := by omega
  cases d with
  | fl a => cases sd
  | tup ds =>
    unfold D.dep at hu
    unfold Is at hx
    obtain ⟨a, xs, rfl, h1, h2⟩ := hx
    cases rx
    obtain ⟨its, r, ht, _⟩ := I.tuple (sq_tup h1)
    cases e with
    | fl b => cases se
    | tup es =>
      unfold Is at hy
      obtain ⟨b, ys, rfl, k1, k2⟩ := hy
      cases ry
      obtain ⟨its2, r2, ht2, _⟩ := I.tuple (sq_tup k1)
      have e1 := eqDs_range ds es (eAt ds es) fun i a b q1 q2 => eAt_of q1 q2
      have it := items_eq I (A := A) (n := depL ds) (Nat.le_refl _) (by omega) r r2 h2 k2
      have q := RcAt.tuples (e := eAt ds es) ht ht2 hu0 it
      have q' := RcNeAt.tuples (e := eAt ds es) ht ht2 hu0 it
      rw [List.size_toArray, List.size_toArray, ← r.length, ← r2.length, h2.length, k2.length, e1] at q q'
      unfold eqD
      exact ⟨q, q'⟩
    | lst es =>
      unfold Is at hy
      obtain ⟨b, ys, rfl, k1, k2⟩ := hy
      cases ry
      obtain ⟨its2, r2, ht2, _⟩ := I.list (sq_lst k1)
      unfold eqD
      exact ⟨RcAt.tuple_list ht ht2.isList hu0, RcNeAt.tuple_list ht ht2.isList hu0⟩
  | lst ds =>
    unfold D.dep at hu
    unfold Is at hx
    obtain ⟨a, xs, rfl, h1, h2⟩ := hx
    cases rx
    obtain ⟨its, r, ht, _⟩ := I.list (sq_lst h1)
    cases e with
    | fl b => cases se
    | tup es =>
      unfold Is at hy
      obtain ⟨b, ys, rfl, k1, k2⟩ := hy
      cases ry
      obtain ⟨its2, r2, ht2, _⟩ := I.tuple (sq_tup k1)
      unfold eqD
      exact ⟨RcAt.list_tuple ht.isList ht2 hu0, RcNeAt.list_tuple ht.isList ht2 hu0⟩
    | lst es =>
      unfold Is at hy
      obtain ⟨b, ys, rfl, k1, k2⟩ := hy
      cases ry
      obtain ⟨its2, r2, ht2, _⟩ := I.list (sq_lst k1)
      have e1 := eqDs_range ds es (eAt ds es) fun i a b q1 q2 => eAt_of q1 q2
      unfold eqD
      by_cases hsz : ds.length = es.length
      · rw [hsz, Nat.min_self, beq_self_eq_true, Bool.and_true] at e1
        have it := items_eq I (A := A) (n := depL ds) (Nat.le_refl _) (by omega) r r2 h2 k2
        have sz : its.toArray.size = its2.toArray.size := by rw [List.size_toArray, List.size_toArray, ← r.length, ← r2.length, h2.length, k2.length]; exact hsz
        have q := RcAt.lists (e := eAt ds es) ht.isList ht2.isList sz hu0 it
        have q' := RcNeAt.lists (e := eAt ds es) ht.isList ht2.isList sz hu0 it
        rw [List.size_toArray, ← r.length, h2.length, hsz, e1] at q q'
        exact ⟨q, q'⟩
      · have sz : (its.toArray.size != its2.toArray.size) = true := by rw [List.size_toArray, List.size_toArray, ← r.length, ← r2.length, h2.length, k2.length]; simpa using hsz
        have : (ds.length == es.length) = false := by simpa using hsz
        rw [this, Bool.and_false] at e1
        rw [← e1]
        exact ⟨RcAt.lists_lengths ht.isList ht2.isList sz hu0, RcNeAt.lists_lengths ht.isList ht2.isList sz hu0⟩
end
end L2
namespace L2
open PySem PySem.Spec PyProof.Rows
section
variable {prog : Program} {w : World} {A : Around} {E : Value → Shared → Prop} {s : Shared}
theorem lri_no_len : typeLookup (.type "list_reverseiterator") "__len__" = pure none := by rw [typeLookup_type, builtinLookup_eq_fast]; kernel_rfl
theorem lri_hint : typeLookup (.type "list_reverseiterator") "__length_hint__" = pure (some (.builtin "list_reverseiterator.__length_hint__")) := by rw [typeLookup_type, builtinLookup_eq_fast]; kernel_rfl
theorem rev_hint {r : Addr} {Q : Bool → Shared → Prop} (hT : s.TypeIs (.ref r) "list_reverseiterator") (h : Q false s) : wpAny (model prog w) A (Builtin.List.listLengthHint (.ref r)) Q E s := by
  unfold Builtin.List.listLengthHint
  refine wpAny_bind (wpAny_specialOf hT lri_no_len ?_)
  refine wpAny_bind (wpAny_specialOf hT lri_hint ?_)
  generalize hid : ("list_reverseiterator.__length_hint__" : String) = id0
  wp_delta
  rw [show splitId id0 = some ("list_reverseiterator", "__length_hint__") from by subst hid; decide +kernel]
  subst hid
  refine wpAny_bind (wpAny_isInstance (T := "list_reverseiterator") (b := true) hT (by rw [isSubtype_type]; kernel_rfl) ?_)
  refine wpAny_ite_split (fun hab => absurd hab (by decide)) (fun _ => ?_)
  refine wpAny_ite_split (fun _ => ?_) (fun hab => absurd (by decide +kernel) hab)
  refine wpAny_ite_split (fun hab => absurd hab (by decide +kernel)) (fun _ => ?_)
  exact wpAny_pure h
theorem rev_call {p l : Addr} {items : Array Value} {Q : Value → Shared → Prop} (hh : A.handled = none) (hne : l ≠ p) (hit : s.heap.IsRevIter p l ((items.size : Int) - 1)) (hl : s.heap.IsList l items) (hn : items.size ≤ sizeLine)
    (hQ : ∀ h' tk c', (∀ b o, b ≠ p → s.heap.get? b = some o → h'.get? b = some o) → h'.get? s.heap.objs.size = some { cls := .type "list", dict := none, data := .seq items.reverse c', slots := #[] } → Q (.ref s.heap.objs.size) { s with heap := h', toks := tk }) :
    wpAny (model prog w) A (call (.type "list") [.ref p]) Q E s := by
  have hpl : p < s.heap.objs.size := by obtain ⟨o, e, _⟩ := hit; exact Heap.lt_size e
  have hll : l < s.heap.objs.size := by obtain ⟨o, e, _⟩ := hl; exact Heap.lt_size e
  refine callType_codes (Q₁ := fun obj s₁ => obj = .ref s.heap.objs.size ∧ s₁ = { s with heap := s.heap.push { cls := .type "list", data := .seq #[] } }) PySem.F.called_list (PySem.F.typeCall_list_1 _) PySem.F.entry_list_init
    (code_list_new _ ⟨rfl, rfl⟩) fun obj s₁ h₁ => ?_
  obtain ⟨rfl, rfl⟩ := h₁
  have hS : (s.heap.push { cls := .type "list", data := .seq #[] }).get? s.heap.objs.size = some { cls := .type "list", data := .seq #[] } := Heap.get?_push_size _ rfl
  generalize hSe : s.heap.objs.size = S at *
  have hSp : S ≠ p := Nat.ne_of_gt hpl
  have hSl : S ≠ l := Nat.ne_of_gt hll
  refine ⟨⟨_, hS, rfl⟩, PySem.F.args_list_init_2 _ _, ?_⟩
  show wpAny _ _ (do let old ← Builtin.List.listItems (.ref S); Builtin.List.listUpdate (.ref S) (fun _ => #[]); letGo old.toList.reverse; Builtin.List.listExtendWith (.ref S) (.ref p) .none) _ _ _
  refine wpAny_bind ?_
  unfold Builtin.List.listItems
  refine wpAny_bind (wpAny_seqItems hS rfl (wpAny_pure ?_))
  show wpAny _ _ (updateSeq S (fun _ => #[]) >>= fun _ => letGo (#[] : Array Value).toList.reverse >>= fun _ => Builtin.List.listExtendWith (.ref S) (.ref p) .none) _ _ _
  refine wpAny_bind (wpAny_updateSeq hS rfl ?_)
  have hS₂ := Heap.get?_update_self (Obj.mapSeq (fun _ => (#[] : Array Value))) hS rfl
  have oth : ∀ b o, b ≠ S → s.heap.get? b = some o → ((s.heap.push { cls := .type "list", data := .seq #[] }).update S (Obj.mapSeq (fun _ => (#[] : Array Value)))).get? b = some o :=
    fun b o hb e => (Heap.get?_update_other _ _ (Ne.symm hb)).trans (Heap.get?_push_of_some _ e)
  refine wpAny_bind (wpAny_letGo ?_)
  generalize (s.heap.push { cls := .type "list", data := .seq #[] }).update S (Obj.mapSeq (fun _ => (#[] : Array Value))) = h1 at hS₂ oth ⊢
  have hit1 : h1.IsRevIter p l ((items.size : Int) - 1) := hit.at fun o e => oth p o hSp.symm e
  have hl1 : h1.IsList l items := hl.at fun o e => oth l o hSl.symm e
  unfold Builtin.List.listExtendWith
  refine wpAny_bind (wpAny_typeOf (T := "list_reverseiterator") (s := { s with heap := h1 }) hit1.typeIs ?_)
  have e1 : Builtin.List.listSameRef (.ref S) (.ref p) = false := by simp [Builtin.List.listSameRef, hSp]
  have e2 : (Value.type "list_reverseiterator" == Value.type "list") = false := by decide
  have e3 : (Value.type "list_reverseiterator" == Value.type "tuple") = false := by decide
  simp only [e1, e2, e3, Bool.or_false, Bool.false_eq_true, if_false]
  refine wpAny_bind (wpAny_pyIter_revIter (s := { s with heap := h1 }) hit1 ?_)
  refine wpAny_bind (wpAny_holding (rev_hint (s := { s with heap := h1 }) hit1.typeIs ?_))
  refine wpAny_ite_split (fun hab => absurd hab (by decide +kernel)) (fun _ => ?_)
  have W := Walks.listRev (prog := prog) (w := w) (A := A.in1.in1) hh p l hne items
  refine wpAny_pure ⟨plainId_quiet PySem.F.plain_extend_loop _, codeAny_extend_loopS (A := A.in1) W.toS hn S (by simp [hSp, hSl]) _ items.size 0 { s with heap := h1 } #[] _ rfl (Nat.zero_le _) ⟨Nat.zero_le _, by simpa using hit1, hl1⟩ hS₂ (ItemsOf.nil _) fun s' acc' c' hm hS' hacc => ?_⟩
  rw [Moved.eq_with hm]
  have er : acc' = items.reverse := by
    apply Array.ext
    · rw [hacc.1, Array.size_reverse]
    · intro i h1 h2
      have this : items[items.size - 1 - i]? = some acc'[i] := hacc.2 i (acc'[i]) (Array.getElem?_eq_getElem h1)
      rw [Array.getElem_reverse]
      have h3 : i < items.size := by rw [← hacc.1]; exact h1
      rw [Array.getElem?_eq_getElem (by omega)] at this
      exact (Option.some.inj this).symm
  subst er
  refine ⟨rfl, hQ s'.heap s'.toks c' (fun b o hb e => hm.heap b o (fun hmem => ?_) (oth b o ?_ e)) hS'⟩
  · rcases List.mem_cons.mp hmem with e' | hmem
    · exact absurd (Heap.lt_size e) (by rw [hSe, e']; exact Nat.lt_irrefl _)
    · exact hb (List.mem_singleton.mp hmem)
  · intro e'; exact absurd (Heap.lt_size e) (by rw [hSe, e']; exact Nat.lt_irrefl _)
end
section
variable {X : Cx} {e : Expr} {te : TE} {p1 p2 pos1 pos2 : Pos}
abbrev tListRev (K : PySem.W.Frag) (te : TE) : TE := fun σ H Q => te σ H fun v H1 => ∃ a xs, v = .ref a ∧ SqL K H1 a xs ∧ ∀ l, H1 l = none → Q (.ref l) (upd H1 l (.lst xs.reverse))
theorem vals_rev : ∀ {xs : List V} {us : List Value}, Vals xs us → Vals xs.reverse us.reverse
  | _, _, .nil => .nil
  | _, _, .cons (a := x) (b := u) (l₁ := xs) (l₂ := us) r t => by
    rw [List.reverse_cons, List.reverse_cons]
    exact Vals.append (vals_rev t) (.cons r .nil)
theorem pe_listRev (hc : X.calm = true) (hgL : Gl X "list") (hmL : X.mg "list" = none) (hgR : Gl X "reversed") (hmR : X.mg "reversed" = none) (he : PE X e te)
    (hs1 : starEach [.Call (.Name "reversed" p2) [e] [] pos2] X.env = (false, eval (.Call (.Name "reversed" p2) [e] [] pos2) X.env) :: starEach [] X.env := by rfl)
    (hpl1 : (backTo pos1 (starEach [] X.env)).any (·.1) = false := by rfl)
    (hs2 : starEach [e] X.env = (false, eval e X.env) :: starEach [] X.env := by rfl)
    (hpl2 : (backTo pos2 (starEach [] X.env)).any (·.1) = false := by rfl) :
    PE X (.Call (.Name "list" p1) [.Call (.Name "reversed" p2) [e] [] pos2] [] pos1) (tListRev X.K te) := by
  intro pins s σ H Q I h
  refine wpAny_Call_Name_kw (ld_blt I hgL hmL PyProof.Rows.Boot.«list» ?_ (by decide) (by decide))
  refine PyProof.Rows.callWith_type1 ?_ hs1 hpl1
  rw [hs1]
  show wpAny _ _ (spliced ((false, eval (.Call (.Name "reversed" p2) [e] [] pos2) X.env) :: backTo pos1 (starEach [] X.env))) _ _ s
  refine Calls.spliced_cons ?_
  refine wpAny_Call_Name_kw (ld_blt I hgR hmR PyProof.Rows.Boot.«reversed» ?_ (by decide) (by decide))
  refine PyProof.Rows.callWith_type1 ?_ hs2 hpl2
  rw [hs2]
  show wpAny _ _ (spliced ((false, eval e X.env) :: backTo pos2 (starEach [] X.env))) _ _ s
  refine Calls.spliced_cons (thn (he pins s σ H _ I h) fun v s1 ⟨x, H1, I1, r1, q1⟩ => ?_)
  obtain ⟨a, xs, ex, hq, q⟩ := q1
  subst ex
  cases r1
  obtain ⟨its, rv, pl, hz⟩ := I1.list hq
  have hlen := rv.length
  refine Calls.spliced_nil ?_
  have hil := pl.isList
  refine call_reversed_list hil ?_
  refine Calls.spliced_nil ?_
  have hal : a < s1.heap.objs.size := by obtain ⟨o, e, _⟩ := hil; exact Heap.lt_size e
  refine rev_call (s := { s1 with heap := s1.heap.push (revObj a ((its.toArray.size : Int) - 1)) }) (I1.ok.hd hc) (Nat.ne_of_lt hal) ⟨_, Heap.get?_push_size _ rfl, rfl, rfl⟩ (hil.at fun o e => Heap.get?_push_of_some _ e) (by simp only [List.size_toArray]; omega) fun h' tk c' kp eh => ?_
  have kp' : ∀ b o, s1.heap.get? b = some o → h'.get? b = some o := fun b o e => kp b o (Nat.ne_of_lt (Heap.lt_size e)) (Heap.get?_push_of_some _ e)
  have hsz : (s1.heap.push (revObj a ((its.toArray.size : Int) - 1))).objs.size = s1.heap.objs.size + 1 := size_push' _ _
  refine ⟨.ref _, _, I1.laid (t' := tk) kp' (by rw [hsz]; exact Nat.le_succ _) (show ObjOk X.prog X.w _ h' _ (.lst xs.reverse) from ⟨by rw [List.length_reverse]; exact hz, its.reverse, c', vals_rev rv, by rw [eh]; simp⟩), rfl, q _ (I1.hok.fresh (by rw [hsz]; exact Nat.le_succ _))⟩
end
end L2
namespace L2
open PySem PySem.Spec PyProof.Rows
section
variable {X : Cx} {pins : List (Addr × Obj)} {σ : St} {H : Hp} {s : Shared} {h' : Heap}
end
section
variable {X : Cx} {elts : List Expr} {x1} {tpos : Pos}
end
end L2
namespace L2
open PySem PySem.Spec PyProof.Rows
section
variable {X : Cx} {tg : Expr}
end
end L2
namespace L2
open PySem PySem.Spec PyProof.Rows
section
variable {X : Cx}
end
end L2
namespace L2
open PySem PySem.Spec PyProof.Rows
section
variable {κ : Type} [DecidableEq κ]
def valV (kvs : List (κ × V)) (k : κ) : Option V := (kvs.find? fun kv => decide (kv.1 = k)).map (·.2)
def putK (kvs : List (κ × V)) (k : κ) (v : V) : List (κ × V) :=
  if (kvs.any fun kv => decide (kv.1 = k)) = true then kvs.map (fun kv => if kv.1 = k then (kv.1, v) else kv) else kvs ++ [(k, v)]
def dropK (kvs : List (κ × V)) (k : κ) : List (κ × V) := kvs.filter fun kv => decide (kv.1 ≠ k)
theorem valV_pos {p : κ × V} {r : List (κ × V)} {k : κ} (e : p.1 = k) : valV (p :: r) k = some p.2 := by simp [valV, List.find?_cons, e]
theorem valV_neg {p : κ × V} {r : List (κ × V)} {k : κ} (e : ¬ p.1 = k) : valV (p :: r) k = valV r k := by simp [valV, List.find?_cons, e]
theorem valV_any (k : κ) : ∀ kvs : List (κ × V), (kvs.any fun kv => decide (kv.1 = k)) = (valV kvs k).isSome
  | [] => rfl
  | p :: r => by
    rw [List.any_cons]
    by_cases e : p.1 = k
    · simp only [valV_pos e, decide_eq_true e, Bool.true_or, Option.isSome_some]
    · rw [valV_neg e, decide_eq_false e, Bool.false_or]; exact valV_any k r
theorem RelO.isSome_eq {o : Option V} {u : Option Value} (r : RelO o u) : o.isSome = u.isSome := by
  cases o with
  | none => cases u with
    | none => rfl
    | some _ => exact (show False from r).elim
  | some _ => cases u with
    | none => exact (show False from r).elim
    | some _ => rfl
theorem RelO.getD {o : Option V} {u : Option Value} {d : V} {d' : Value} (r : RelO o u) (rd : RelV d d') : RelV (o.getD d) (u.getD d') := by
  cases o with
  | none => cases u with
    | none => exact rd
    | some _ => exact (show False from r).elim
  | some _ => cases u with
    | none => exact (show False from r).elim
    | some _ => exact r
theorem KV.val {kvs : List (κ × V)} {vs : List (κ × Value)} (r : KV kvs vs) (k : κ) : RelO (valV kvs k) (valueAt vs k) := by
  unfold KV at r
  induction r with
  | nil => exact True.intro
  | @cons p q ps qs h t ih =>
    obtain ⟨h1, h2⟩ := h
    by_cases e : p.1 = k
    · have e' : q.1 = k := h1.symm.trans e
      have b : valueAt (q :: qs) k = some q.2 := by simp [valueAt, List.find?_cons, e']
      rw [valV_pos e, b]; exact h2
    · have e' : ¬ q.1 = k := fun z => e (h1.trans z)
      have b : valueAt (q :: qs) k = valueAt qs k := by simp [valueAt, List.find?_cons, e']
      rw [valV_neg e, b]; exact ih
theorem KV.any {kvs : List (κ × V)} {vs : List (κ × Value)} (r : KV kvs vs) (k : κ) : (kvs.any fun kv => decide (kv.1 = k)) = vs.any fun kv => decide (kv.1 = k) := by
  unfold KV at r
  induction r with
  | nil => rfl
  | cons h t ih => rw [List.any_cons, List.any_cons, ih, h.1]
theorem KV.repl {kvs : List (κ × V)} {vs : List (κ × Value)} (r : KV kvs vs) (k : κ) {y : V} {u : Value} (ry : RelV y u) :
    KV (kvs.map fun kv => if kv.1 = k then (kv.1, y) else kv) (vs.map fun kv => if kv.1 = k then (kv.1, u) else kv) := by
  unfold KV at r ⊢
  induction r with
  | nil => exact .nil
  | @cons p q ps qs h t ih =>
    rw [List.map_cons, List.map_cons]
    refine .cons ?_ ih
    obtain ⟨h1, h2⟩ := h
    by_cases e : p.1 = k
    · rw [if_pos e, if_pos (h1.symm.trans e)]; exact ⟨h1, ry⟩
    · rw [if_neg e, if_neg (fun z => e (h1.trans z))]; exact ⟨h1, h2⟩
theorem KV.put {kvs : List (κ × V)} {vs : List (κ × Value)} (r : KV kvs vs) (k : κ) {y : V} {u : Value} (ry : RelV y u) : KV (putK kvs k y) (stored vs k u) := by
  unfold putK stored
  rw [r.any k]
  by_cases e : (vs.any fun kv => decide (kv.1 = k)) = true
  · rw [if_pos e, if_pos e]; exact r.repl k ry
  · rw [if_neg e, if_neg e]; exact Paired.snoc r ⟨rfl, ry⟩
theorem KV.drop {kvs : List (κ × V)} {vs : List (κ × Value)} (r : KV kvs vs) (k : κ) : KV (dropK kvs k) (without vs k) := by
  unfold KV at r ⊢
  unfold dropK without
  induction r with
  | nil => exact .nil
  | @cons p q ps qs h t ih =>
    obtain ⟨h1, h2⟩ := h
    rw [List.filter_cons, List.filter_cons]
    by_cases e : p.1 = k
    · have a : ¬ decide (p.1 ≠ k) = true := by simp [e]
      have b : ¬ decide (q.1 ≠ k) = true := by simp [h1.symm.trans e]
      rw [if_neg a, if_neg b]; exact ih
    · have e' : ¬ q.1 = k := fun z => e (h1.trans z)
      have a : decide (p.1 ≠ k) = true := by simp [e]
      have b : decide (q.1 ≠ k) = true := by simp [e']
      rw [if_pos a, if_pos b]; exact .cons ⟨h1, h2⟩ ih
theorem KV.length {kvs : List (κ × V)} {vs : List (κ × Value)} (r : KV kvs vs) : kvs.length = vs.length := Paired.length r
end
abbrev KT (H : Hp) : List (List Key × V) → List (List Key × Addr × Value) → Prop := Paired fun p q => p.1 = q.1 ∧ H q.2.1 = some (.tup (p.1.map kV)) ∧ RelV p.2 q.2.2
theorem KT.val {H : Hp} {kvs : List (List Key × V)} {xs : List (List Key × Addr × Value)} (r : KT H kvs xs) (k : List Key) : RelO (valV kvs k) ((atKey xs k).map (·.2)) := by
  induction r with
  | nil => exact True.intro
  | @cons p q ps qs h t ih =>
    obtain ⟨h1, _, h2⟩ := h
    by_cases e : p.1 = k
    · have e' : q.1 = k := h1.symm.trans e
      have b : atKey (q :: qs) k = some q.2 := by simp [atKey, List.find?_cons, e']
      rw [valV_pos e, b]; exact h2
    · have e' : ¬ q.1 = k := fun z => e (h1.trans z)
      have b : atKey (q :: qs) k = atKey qs k := by simp [atKey, List.find?_cons, e']
      rw [valV_neg e, b]; exact ih
theorem KT.repl {H : Hp} {kvs : List (List Key × V)} {xs : List (List Key × Addr × Value)} (r : KT H kvs xs) (k : List Key) {y : V} {u : Value} (ry : RelV y u) :
    KT H (kvs.map fun kv => if kv.1 = k then (kv.1, y) else kv) (xs.map (putAt k u)) := by
  induction r with
  | nil => exact .nil
  | @cons p q ps qs h t ih =>
    rw [List.map_cons, List.map_cons]
    refine .cons ?_ ih
    obtain ⟨h1, h2, h3⟩ := h
    unfold putAt
    by_cases e : p.1 = k
    · rw [if_pos e, if_pos (h1.symm.trans e)]; exact ⟨h1, h2, ry⟩
    · rw [if_neg e, if_neg (fun z => e (h1.trans z))]; exact ⟨h1, h2, h3⟩
theorem KT.put {H : Hp} {kvs : List (List Key × V)} {xs : List (List Key × Addr × Value)} (r : KT H kvs xs) (k : List Key) {b : Addr} {y : V} {u : Value} (hb : H b = some (.tup (k.map kV))) (ry : RelV y u) :
    KT H (putK kvs k y) (storedH xs k b u) := by
  have e : (kvs.any fun kv => decide (kv.1 = k)) = (atKey xs k).isSome := by
    rw [valV_any, (r.val k).isSome_eq, Option.isSome_map]
  unfold putK storedH
  rw [e]
  by_cases q : (atKey xs k).isSome = true
  · rw [if_pos q, if_pos q]; exact r.repl k ry
  · rw [if_neg q, if_neg q]; exact Paired.snoc r ⟨rfl, hb, ry⟩
theorem KT.keeps {H H' : Hp} {kvs : List (List Key × V)} {xs : List (List Key × Addr × Value)} (r : KT H kvs xs) (ht : ∀ b ys, H b = some (.tup ys) → H' b = some (.tup ys)) : KT H' kvs xs :=
  Paired.mapP r fun _ _ z => ⟨z.1, ht _ _ z.2.1, z.2.2⟩
section
variable {P : Program} {w : World} {H : Hp} {h : Heap} {a : Addr}
end
def DGet (H : Hp) (a : Addr) (y : V) (r : Option V) : Prop :=
  (∃ kvs k, Rd H a (.dK kvs) ∧ y = kV k ∧ r = valV kvs k) ∨ ∃ kvs k b, Rd H a (.dT kvs) ∧ y = .ref b ∧ H b = some (.tup (k.map kV)) ∧ r = valV kvs k
def DPut (H : Hp) (a : Addr) (y v : V) (H' : Hp) : Prop :=
  (∃ kvs k, H a = some (.dK kvs) ∧ y = kV k ∧ kvs.length < sizeLine ∧ H' = upd H a (.dK (putK kvs k v))) ∨
  ∃ kvs k b, H a = some (.dT kvs) ∧ y = .ref b ∧ H b = some (.tup (k.map kV)) ∧ kvs.length < sizeLine ∧ H' = upd H a (.dT (putK kvs k v))
theorem DGet.k {H : Hp} {a : Addr} {kvs : List (Key × V)} {k : Key} (e : H a = some (.dK kvs)) : DGet H a (kV k) (valV kvs k) := .inl ⟨kvs, k, .inl e, rfl, rfl⟩
theorem DGet.t {H : Hp} {a b : Addr} {kvs : List (List Key × V)} {k : List Key} (e : H a = some (.dT kvs)) (eb : H b = some (.tup (k.map kV))) : DGet H a (.ref b) (valV kvs k) := .inr ⟨kvs, k, b, .inl e, rfl, eb, rfl⟩
theorem DPut.k {H : Hp} {a : Addr} {kvs : List (Key × V)} {k : Key} {v : V} (e : H a = some (.dK kvs)) (hl : kvs.length < sizeLine) : DPut H a (kV k) v (upd H a (.dK (putK kvs k v))) := .inl ⟨kvs, k, e, rfl, hl, rfl⟩
theorem DPut.t {H : Hp} {a b : Addr} {kvs : List (List Key × V)} {k : List Key} {v : V} (e : H a = some (.dT kvs)) (eb : H b = some (.tup (k.map kV))) (hl : kvs.length < sizeLine) :
    DPut H a (.ref b) v (upd H a (.dT (putK kvs k v))) := .inr ⟨kvs, k, b, e, rfl, eb, hl, rfl⟩
section
variable {X : Cx} {pins : List (Addr × Obj)} {σ : St} {H : Hp} {s : Shared} {a : Addr} {y v : V} {u r : Value} {o : Option V} {A : Around} {E : Value → Shared → Prop}
theorem Inv.big (I : Inv X pins σ H s) : sysModules < s.heap.objs.size := by
  have h : mainGlobals < s.heap.objs.size := (I.mod.glob.keeps I.bk).lt
  exact Nat.lt_trans (by decide) h
end
section
variable {X : Cx} {pins : List (Addr × Obj)} {σ : St} {H : Hp} {s : Shared} {a : Addr} {kvs : List (Key × V)} {k : Key} {u : Value} {A : Around} {E : Value → Shared → Prop}
end
section
variable {X : Cx} {o i e value : Expr} {pos pos' tpos : Pos} {td ty tv : TE}
end
section
variable {X : Cx} {pos : Pos}
end
section
variable {X : Cx} {pins : List (Addr × Obj)} {σ : St} {H : Hp} {s : Shared} {a : Addr} {y d : V} {u r : Value} {o : Option V} {A : Around} {E : Value → Shared → Prop}
end
section
variable {X : Cx} {o e f : Expr} {apos cpos : Pos} {td ty tx : TE}
end
section
variable {X : Cx} {pins : List (Addr × Obj)} {σ : St} {H : Hp} {s : Shared} {a : Addr} {kvs : List (Key × V)} {A : Around} {E : Value → Shared → Prop}
end
section
variable {X : Cx} {pins : List (Addr × Obj)} {σ : St} {H : Hp} {s : Shared} {a : Addr} {y : V} {u : Value} {A : Around} {E : Value → Shared → Prop}
end
end L2
namespace L2
open PySem PySem.Spec PyProof.Rows
section
variable {X : Cx}
end
section
variable {κ : Type} [DecidableEq κ]
end
end L2
namespace L2
open PySem PySem.Spec PyProof.Rows
section
variable {X : Cx} {pins : List (Addr × Obj)} {σ : St} {H : Hp} {s : Shared} {a : Addr} {y v : V} {u r : Value} {A : Around} {E : Value → Shared → Prop}
end
section
variable {X : Cx} {pins : List (Addr × Obj)} {σ : St} {l it d : Addr} {xs : List V} {ps : List (List Key × V)} {H0 : Hp} {R : Result → Shared → Prop}
end
end L2
namespace L2
open PySem PySem.Spec PyProof.Rows
abbrev PT0 := List Int × T
def kidsAt (pl : List Int) (i : Nat) : List T → List PT0
  | [] => []
  | k :: ks => (pl ++ [(i : Int)], k) :: kidsAt pl (i + 1) ks
def run : Nat → List PT0 → List PT0
  | 0, _ => []
  | _ + 1, [] => []
  | n + 1, p :: st => p :: run n (kidsAt p.1 0 p.2.kids ++ st)
def T.at_ : T → List Int → Option T
  | t, [] => some t
  | t, k :: q => if h : 0 ≤ k ∧ k < (t.kids.length : Int) then (t.kids[k.toNat]'(by omega)).at_ q else none
mutual
def T.dp : T → Nat
  | .leaf _ _ => 0
  | .op _ m n => max (m.dp + 1) (max (n.dp + 1) 0)
  | .many _ _ ts => hts ts
  | .lett _ a b => max (a.dp + 1) (max (b.dp + 1) 0)
  | .loop _ n _ a b => max (n.dp + 1) (max (a.dp + 1) (max (b.dp + 1) 0))
  | .pick n ts => max (n.dp + 1) (hts ts)
def hts : List T → Nat
  | [] => 0
  | t :: ts => max (t.dp + 1) (hts ts)
end
end L2
namespace L2
open PySem PySem.Spec PyProof.Rows
section
variable {X : Cx} {e : Expr} {te : TE} {p1 p2 pos1 pos2 : Pos}
end
theorem IsT.inv {H : Hp} {v : V} {t : T} (h : IsT H v t) (o : t.ok = true) : ∃ a xs, v = .ref a ∧ H a = some (.tup xs) := by
  have : ∃ ds, t.toD = .tup ds := by cases t <;> (unfold T.toD; exact ⟨_, rfl⟩)
  obtain ⟨ds, e⟩ := this
  unfold IsT at h
  rw [e] at h
  unfold Is at h
  obtain ⟨a, xs, e1, e2, _⟩ := h
  exact ⟨a, xs, e1, e2⟩
theorem isl_cons_inv {H : Hp} {xs : List V} {d : D} {ds : List D} (h : IsL H xs (d :: ds)) : ∃ x ys, xs = x :: ys ∧ Is H x d ∧ IsL H ys ds := by
  match xs, h with
  | [], h => unfold IsL at h; exact h.elim
  | x :: ys, h =>
    obtain ⟨d', ds', e, h1, h2⟩ := h.inv
    injection e with e1 e2
    subst e1 e2
    exact ⟨x, ys, rfl, h1, h2⟩
theorem isl_nil_inv {H : Hp} {xs : List V} (h : IsL H xs []) : xs = [] := by
  match xs, h with
  | [], _ => rfl
  | _ :: _, h => unfold IsL at h; exact h.elim
theorem is_str_inv {H : Hp} {v : V} {x : Str} (h : Is H v (sD x)) : v = .str x := by unfold sD Is at h; exact h.1
theorem is_tup_inv {H : Hp} {v : V} {ds : List D} (h : Is H v (.tup ds)) : ∃ a xs, v = .ref a ∧ H a = some (.tup xs) ∧ IsL H xs ds := by unfold Is at h; exact h
inductive Laid (H : Hp) (a : Addr) : T → Prop
  | leaf {k x v} (h : H a = some (.tup [.str k, v])) : Laid H a (.leaf k x)
  | op {s m n vm vn} (h : H a = some (.tup [.str "op", .str s, vm, vn])) (hm : IsT H vm m) (hn : IsT H vn n) : Laid H a (.op s m n)
  | many {k w ts b xs} (h : H a = some (.tup [.str k, .str w, .ref b])) (hb : H b = some (.tup xs)) (hx : IsL H xs (ts.map T.toD)) : Laid H a (.many k w ts)
  | lett {x a' b' va vb} (h : H a = some (.tup [.str "let", .str x, va, vb])) (ha : IsT H va a') (hb : IsT H vb b') : Laid H a (.lett x a' b')
  | loop {i n x a' b' vn va vb} (h : H a = some (.tup [.str "loop", .str i, vn, .str x, va, vb])) (hn : IsT H vn n) (ha : IsT H va a') (hb : IsT H vb b') : Laid H a (.loop i n x a' b')
  | pick {n ts vn b xs} (h : H a = some (.tup [.str "pick", vn, .ref b])) (hn : IsT H vn n) (hb : H b = some (.tup xs)) (hx : IsL H xs (ts.map T.toD)) : Laid H a (.pick n ts)
theorem IsT.laid {H : Hp} {v : V} {t : T} (h : IsT H v t) : ∃ a, v = .ref a ∧ Laid H a t := by
  unfold IsT at h
  cases t with
  | leaf k x =>
    unfold T.toD at h
    obtain ⟨a, xs, e, h1, h2⟩ := is_tup_inv h
    obtain ⟨v0, ys, rfl, g0, h2⟩ := isl_cons_inv h2
    obtain ⟨v1, ys, rfl, g1, h2⟩ := isl_cons_inv h2
    have := isl_nil_inv h2; subst this
    rw [is_str_inv g0] at h1
    exact ⟨a, e, .leaf h1⟩
  | op s m n =>
    unfold T.toD at h
    obtain ⟨a, xs, e, h1, h2⟩ := is_tup_inv h
    obtain ⟨v0, ys, rfl, g0, h2⟩ := isl_cons_inv h2
    obtain ⟨v1, ys, rfl, g1, h2⟩ := isl_cons_inv h2
    obtain ⟨v2, ys, rfl, g2, h2⟩ := isl_cons_inv h2
    obtain ⟨v3, ys, rfl, g3, h2⟩ := isl_cons_inv h2
    have := isl_nil_inv h2; subst this
    rw [is_str_inv g0, is_str_inv g1] at h1
    exact ⟨a, e, .op h1 g2 g3⟩
  | many k w ts =>
    unfold T.toD at h
    obtain ⟨a, xs, e, h1, h2⟩ := is_tup_inv h
    obtain ⟨v0, ys, rfl, g0, h2⟩ := isl_cons_inv h2
    obtain ⟨v1, ys, rfl, g1, h2⟩ := isl_cons_inv h2
    obtain ⟨v2, ys, rfl, g2, h2⟩ := isl_cons_inv h2
    have := isl_nil_inv h2; subst this
    obtain ⟨b, zs, e2, k1, k2⟩ := is_tup_inv g2
    subst e2
    rw [is_str_inv g0, is_str_inv g1] at h1
    rw [toDs_map] at k2
    exact ⟨a, e, .many h1 k1 k2⟩
  | lett x a' b' =>
    unfold T.toD at h
    obtain ⟨a, xs, e, h1, h2⟩ := is_tup_inv h
    obtain ⟨v0, ys, rfl, g0, h2⟩ := isl_cons_inv h2
    obtain ⟨v1, ys, rfl, g1, h2⟩ := isl_cons_inv h2
    obtain ⟨v2, ys, rfl, g2, h2⟩ := isl_cons_inv h2
    obtain ⟨v3, ys, rfl, g3, h2⟩ := isl_cons_inv h2
    have := isl_nil_inv h2; subst this
    rw [is_str_inv g0, is_str_inv g1] at h1
    exact ⟨a, e, .lett h1 g2 g3⟩
  | loop i n x a' b' =>
    unfold T.toD at h
    obtain ⟨a, xs, e, h1, h2⟩ := is_tup_inv h
    obtain ⟨v0, ys, rfl, g0, h2⟩ := isl_cons_inv h2
    obtain ⟨v1, ys, rfl, g1, h2⟩ := isl_cons_inv h2
    obtain ⟨v2, ys, rfl, g2, h2⟩ := isl_cons_inv h2
    obtain ⟨v3, ys, rfl, g3, h2⟩ := isl_cons_inv h2
    obtain ⟨v4, ys, rfl, g4, h2⟩ := isl_cons_inv h2
    obtain ⟨v5, ys, rfl, g5, h2⟩ := isl_cons_inv h2
    have := isl_nil_inv h2; subst this
    rw [is_str_inv g0, is_str_inv g1, is_str_inv g3] at h1
    exact ⟨a, e, .loop h1 g2 g4 g5⟩
  | pick n ts =>
    unfold T.toD at h
    obtain ⟨a, xs, e, h1, h2⟩ := is_tup_inv h
    obtain ⟨v0, ys, rfl, g0, h2⟩ := isl_cons_inv h2
    obtain ⟨v1, ys, rfl, g1, h2⟩ := isl_cons_inv h2
    obtain ⟨v2, ys, rfl, g2, h2⟩ := isl_cons_inv h2
    have := isl_nil_inv h2; subst this
    obtain ⟨b, zs, e2, k1, k2⟩ := is_tup_inv g2
    subst e2
    rw [is_str_inv g0] at h1
    rw [toDs_map] at k2
    exact ⟨a, e, .pick h1 g1 k1 k2⟩
end L2
namespace L2
open PySem PySem.Spec PyProof.Rows
section
variable {X : Cx} {pins : List (Addr × Obj)} {σ : St} {H : Hp} {s : Shared} {a : Addr} {kvs : List (Key × V)}
theorem Inv.freeze (I : Inv X pins σ H s) (h : H a = some (.dK kvs)) : ∃ o es ep, s.heap.get? a = some o ∧ o.data = .dict es ep ∧ Inv X pins σ (upd H a (.frz o (.dK kvs))) s := by
  have q := I.hok a _ h
  obtain ⟨z, hs, vs, rel, o, es, ep, ho, he, hd, r⟩ := (show kvs.length ≤ sizeLine ∧ (a == sysModules) = false ∧ ∃ vs, KV kvs vs ∧ s.heap.DictOf (mixKind X.prog X.w) a vs from q)
  refine ⟨o, es, ep, ho, hd, ?_⟩
  have u : Un X.fs [] H (upd H a (.frz o (.dK kvs))) s.heap s.heap := by
    refine ⟨fun b ob q _ _ _ => q, fun b ob q _ _ _ => ⟨ob.slots, q⟩, fun b ob _ n _ => ?_, fun b ob q _ => ⟨ob, q⟩, fun b xs e => ?_, fun b ob u e => ?_, fun b ps e => ⟨#[], ?_⟩⟩
    · rw [upd_ne (fun z => by rw [z, h] at n; cases n)]; exact n
    · rw [upd_ne (ne_of e h (by intro z; cases z))]; exact e
    · rw [upd_ne (ne_of e h (by intro z; cases z))]; exact e
    · rw [upd_ne (ne_of e h (by intro z; cases z)), e]; simp
  have hok : HOk X.prog X.w (upd H a (.frz o (.dK kvs))) s.heap := fun b ob e => by
    by_cases hb : b = a
    · subst hb; rw [upd_same] at e; cases e; exact ⟨ho, q⟩
    · rw [upd_ne hb] at e
      refine (I.hok b ob e).stay (fun _ _ _ q => q) (fun c q => ?_) fun c xs q => ?_
      · rw [upd_ne (ne_of q h (by intro z; cases z))]; exact q
      · rw [upd_ne (ne_of q h (by intro z; cases z))]; exact q
  exact Inv.un (h' := s.heap) (t' := s.toks) I u hok
end
theorem KV.get {κ : Type} : ∀ {kvs : List (κ × V)} {vs : List (κ × Value)} {i : Nat} {p : κ × V}, KV kvs vs → kvs[i]? = some p → ∃ q, vs[i]? = some q ∧ p.1 = q.1 ∧ RelV p.2 q.2
  | _, _, _, _, .nil, e => by simp at e
  | _, _, 0, _, .cons r _, e => by simp at e; subst e; exact ⟨_, rfl, r⟩
  | _, _, i + 1, p, .cons _ t, e => by
    obtain ⟨u, h1, h2⟩ := KV.get (i := i) (p := p) t (by simpa using e)
    exact ⟨u, by simpa using h1, h2⟩
section
variable {X : Cx} {tg : Expr}
end
section
variable {X : Cx}
end
end L2
namespace L2
open PySem PySem.Spec PyProof.Rows
section
variable {X : Cx} {e st : Expr} {te ts : TE} {pos p2 : Pos}
end
end L2
namespace L2
open PySem PySem.Spec PyProof.Rows
abbrev tFmt (te : TE) : TE := fun σ H Q => te σ H fun v H1 => (∃ z, v = .str z ∧ z.length ≤ sizeLine ∧ Q (.str z) H1) ∨ (∃ i, v = .int i ∧ i.natAbs.log2 < 1920 ∧ Q (.str (toString i)) H1)
def tJ : List TE → Str → TE
  | [], acc => fun _ H Q => acc.length ≤ sizeLine ∧ Q (.str acc) H
  | te :: ts, acc => fun σ H Q => te σ H fun v H1 => ∃ z, v = .str z ∧ (acc ++ z).length ≤ sizeLine ∧ tJ ts (acc ++ z) σ H1 Q
section
variable {X : Cx} {e : Expr} {te : TE} {es : List Expr} {ts : List TE} {pos : Pos}
theorem pe_fv (he : PE X e te) : PE X (.FormattedValue e (-1) none pos) (tFmt te) := by
  intro pins s σ H Q I h
  refine FormattedValue_plain (thn (he pins s σ H _ I h) fun v s1 ⟨x, H1, I1, r1, q1⟩ => ?_)
  rcases q1 with ⟨z, rfl, hz, q⟩ | ⟨i, rfl, hi, q⟩
  · obtain ⟨t, rfl⟩ := r1
    exact formatField_str (fun t' tk => ⟨.str z, H1, I1.tok tk, ⟨_, rfl⟩, q⟩) hz
  · obtain ⟨t, rfl⟩ := r1
    exact formatField_int_small hi ⟨.str (toString i), H1, I1.tok _, ⟨_, rfl⟩, q⟩
def PJ (X : Cx) (es : List Expr) (ts : List TE) : Prop :=
  ∀ (acc : Str) (pins : List (Addr × Obj)) (s : Shared) (σ : St) (H : Hp) (Q : VK), Inv X pins σ H s → tJ ts acc σ H Q → wpAny (model X.prog X.w) X.A (joinParts acc (evalEach es X.env)) (EP X pins σ Q) X.xe s
theorem pj_nil : PJ X [] [] := fun acc pins s σ H Q I h => joinParts_nil ⟨.str acc, H, I.tok _, ⟨_, rfl⟩, h.2⟩ h.1
theorem pj_cons (he : PE X e te) (ht : PJ X es ts) : PJ X (e :: es) (te :: ts) := by
  intro acc pins s σ H Q I h
  show wpAny _ _ (joinParts acc (eval e X.env :: evalEach es X.env)) _ _ s
  refine joinParts_cons (thn (he pins s σ H _ I h) fun v s1 ⟨x, H1, I1, r1, q1⟩ => ?_)
  obtain ⟨z, rfl, hz, q⟩ := q1
  obtain ⟨t, rfl⟩ := r1
  exact ⟨hz, ht (acc ++ z) pins s1 σ H1 Q I1 q⟩
theorem pe_joined {e2 : Expr} {rest : List Expr} (h : PJ X (e :: e2 :: rest) ts) : PE X (.JoinedStr (e :: e2 :: rest) pos) (tJ ts Str.empty) := by
  intro pins s σ H Q I q
  exact JoinedStr_many (h Str.empty pins s σ H Q I q)
end
def cs (z : Str) : List Nat := z.cps.toList
theorem tx_cs (z : Str) : z = tx (cs z) := tx_self z
def jn (sep : List Nat) : List (List Nat) → List Nat
  | [] => []
  | x :: ys => x ++ (ys.flatMap fun y => sep ++ y)
theorem tx_jn (sep : List Nat) : ∀ ys : List (List Nat), Txt.join (tx sep) (ys.map tx) = tx (jn sep ys) := by
  intro ys
  have h : Txt.join (tx sep) (ys.map tx) = Str.join (tx sep) (ys.map tx) := by simpa using join_plain_closes (tx sep) (ys.map tx)
  rw [h]
  have : ∀ (x : List Nat) (ys : List (List Nat)), Str.join (tx sep) ((x :: ys).map tx) = tx (x ++ (ys.flatMap fun y => sep ++ y)) := by
    intro x ys
    induction ys generalizing x with
    | nil => simp [Str.join]
    | cons y ys ih =>
      show tx x ++ tx sep ++ Str.join (tx sep) ((y :: ys).map tx) = _
      rw [ih y, tx_app, tx_app]
      simp
  cases ys with
  | nil => rfl
  | cons x ys => exact this x ys
theorem tx_sum (ys : List (List Nat)) : ((ys.map tx).map (·.length)).sum = (ys.map List.length).sum := by
  rw [List.map_map]; congr 1
end L2
namespace L2
open PySem PySem.Spec PyProof.Rows
theorem cs_num {k : Int} (h0 : 0 ≤ k) (h1 : k ≤ 999999) : (cs (toString k)).length ≤ 6 := by
  have := toString_length_le h0 (k := 6) (by decide) (by omega)
  show (Str.ofString (toString k)).cps.toList.length ≤ 6
  rw [Array.length_toList]; exact this
end L2
namespace L2
open PySem PySem.Spec PyProof.Rows
end L2
namespace Q
open PySem L2
inductive Dt where
  | non | bl (b : Bool) | int (i : Int) | str (x : List Nat)
  | tup (xs : List Dt) | lst (o : Bool) (xs : List Dt) | dic (o : Bool) (kvs : List (Dt × Dt)) | ref (k : Nat) | scr (ns : List Int) | ty (n : String) | mtp (ls : List (List Nat))
  deriving Inhabited
structure G where
  Z : Addr → Prop
  μ : List Addr
abbrev Fp := Addr → Prop
def Disj (P Q : Fp) : Prop := ∀ a, P a → Q a → False
def Lk (g : G) (H : Hp) : Bool → Addr → List V → Prop
  | true, a, vs => H a = some (.lst vs) ∧ ¬ g.Z a
  | false, a, vs => H a = some (.lst vs) ∧ g.Z a
def Scr (K : PySem.W.Frag) (H : Hp) (a : Addr) (ns : List Int) : Prop := (∃ o, H a = some (.frz o (.lst (ns.map V.int)))) ∨
    ∃ (o : Obj) (its : Array Value) (n : Nat), K.lookup a = some o ∧ o.cls = .type "list" ∧ o.dict = none ∧ o.data = .seq its n ∧ its.size ≤ sizeLine ∧ Vals (ns.map V.int) its.toList
theorem Scr.sq {K : PySem.W.Frag} {H : Hp} {a : Addr} {ns : List Int} (h : Scr K H a ns) : SqL K H a (ns.map V.int) := h.elim (fun h => .inl (.inr h)) .inr
def Mtp (K : PySem.W.Frag) (a : Addr) (ls : List (List Nat)) : Prop := ∃ (o : Obj) (its : Array Value) (n : Nat), K.lookup a = some o ∧ o.cls = .type "tuple" ∧ o.data = .seq its n ∧ its.size ≤ sizeLine ∧ Vals (ls.map fun l => V.str (tx l)) its.toList
mutual
def Rep (K : PySem.W.Frag) (g : G) (H : Hp) : Dt → V → Fp → Prop
  | .non, v, P => v = .non ∧ ∀ a, ¬ P a
  | .bl b, v, P => v = .bl b ∧ ∀ a, ¬ P a
  | .int i, v, P => v = .int i ∧ ∀ a, ¬ P a
  | .str l, v, P => v = .str (tx l) ∧ ∀ a, ¬ P a
  | .tup ds, v, P => ∃ a vs, v = .ref a ∧ H a = some (.tup vs) ∧ Reps K g H ds vs P
  | .lst o ds, v, P => ∃ a vs P', v = .ref a ∧ Lk g H o a vs ∧ Reps K g H ds vs P' ∧ ¬ P' a ∧ (o = false → ∀ b, ¬ P' b) ∧ ∀ b, P b ↔ (o = true ∧ b = a) ∨ P' b
  | .dic _ _, _, _ => False
  | .ref k, v, P => (∃ a, g.μ[k]? = some a ∧ v = .ref a) ∧ ∀ a, ¬ P a
  | .scr ns, v, P => (∃ a, v = .ref a ∧ Scr K H a ns) ∧ ∀ a, ¬ P a
  | .ty n, v, P => v = .ty n ∧ ∀ a, ¬ P a
  | .mtp ls, v, P => (∃ a, v = .ref a ∧ Mtp K a ls) ∧ ∀ a, ¬ P a
def Reps (K : PySem.W.Frag) (g : G) (H : Hp) : List Dt → List V → Fp → Prop
  | [], vs, P => vs = [] ∧ ∀ a, ¬ P a
  | d :: ds, vs, P => ∃ v r P1 P2, vs = v :: r ∧ Rep K g H d v P1 ∧ Reps K g H ds r P2 ∧ Disj P1 P2 ∧ ∀ a, P a ↔ P1 a ∨ P2 a
end
mutual
def Dt.cp : Dt → Bool
  | .tup ds => cps ds
  | .lst o ds => !o && cps ds
  | .dic _ _ => false
  | _ => true
def cps : List Dt → Bool
  | [] => true
  | d :: ds => d.cp && cps ds
end
mutual
def Dt.fz : Dt → Dt
  | .tup ds => .tup (fzs ds)
  | .lst _ ds => .lst false (fzs ds)
  | d => d
def fzs : List Dt → List Dt
  | [] => []
  | d :: ds => d.fz :: fzs ds
end
def Zd (g : G) (H : Hp) : Prop := ∀ a, g.Z a → H a ≠ none
structure Step (g : G) (P : Fp) (H : Hp) (g' : G) (P' : Fp) (H' : Hp) : Prop where
  keep : ∀ b o, H b = some o → ¬ P b → H' b = some o
  dom : ∀ b, H' b = none → H b = none
  zm : ∀ a, g.Z a → g'.Z a
  zn : ∀ a, g'.Z a → g.Z a ∨ P a ∨ H a = none
  mu : ∃ r, g'.μ = g.μ ++ r
  nw : ∀ a, P' a → P a ∨ H a = none
  zd : Zd g H → Zd g' H'
theorem Step.refl {g : G} {P : Fp} {H : Hp} : Step g P H g P H := ⟨fun _ _ h _ => h, fun _ h => h, fun _ h => h, fun _ h => .inl h, ⟨[], by simp⟩, fun _ h => .inl h, fun h => h⟩
theorem Step.trans {g g1 g2 : G} {P P1 P2 : Fp} {H H1 H2 : Hp} (a : Step g P H g1 P1 H1) (b : Step g1 P1 H1 g2 P2 H2) : Step g P H g2 P2 H2 := by
  have old : ∀ c, H1 c = none → H c = none := a.dom
  have up : ∀ c, P1 c → P c ∨ H c = none := a.nw
  refine ⟨fun c o h n => ?_, fun c h => a.dom c (b.dom c h), fun c h => b.zm c (a.zm c h), fun c h => ?_, ?_, fun c h => ?_, fun z => b.zd (a.zd z)⟩
  · refine b.keep c o (a.keep c o h n) fun z => ?_
    rcases up c z with z | z
    · exact n z
    · rw [h] at z; cases z
  · rcases b.zn c h with z | z | z
    · exact a.zn c z
    · exact (up c z).elim (fun q => .inr (.inl q)) fun q => .inr (.inr q)
    · exact .inr (.inr (old c z))
  · obtain ⟨r1, e1⟩ := a.mu
    obtain ⟨r2, e2⟩ := b.mu
    exact ⟨r1 ++ r2, by rw [e2, e1, List.append_assoc]⟩
  · rcases b.nw c h with z | z
    · exact up c z
    · exact .inr (old c z)
theorem Step.sub {g g' : G} {P Q P' Q' : Fp} {H H' : Hp} (s : Step g P H g' P' H') (h1 : ∀ a, P a → Q a) (h2 : ∀ a, Q' a → P' a) : Step g Q H g' Q' H' :=
  ⟨fun b o h n => s.keep b o h fun z => n (h1 b z), s.dom, s.zm, fun a h => (s.zn a h).elim .inl fun z => .inr (z.elim (fun q => .inl (h1 a q)) .inr), s.mu, fun a h => (s.nw a (h2 a h)).elim (fun q => .inl (h1 a q)) .inr, s.zd⟩
theorem Step.frame {g g' : G} {P P' R : Fp} {H H' : Hp} (s : Step g P H g' P' H') : Step g (fun a => P a ∨ R a) H g' (fun a => P' a ∨ R a) H' :=
  ⟨fun b o h n => s.keep b o h fun z => n (.inl z), s.dom, s.zm, fun a h => (s.zn a h).elim .inl fun z => .inr (z.elim (fun q => .inl (.inl q)) .inr), s.mu, fun a h => h.elim (fun q => (s.nw a q).elim (fun z => .inl (.inl z)) .inr) fun q => .inl (.inr q), s.zd⟩
theorem Step.same {g : G} {P : Fp} {H H' : Hp} (s : Same H H') : Step g P H g P H' :=
  have dm : ∀ b, H' b = none → H b = none := fun b h => by
    cases e : H b with
    | none => rfl
    | some o => rw [s b o e] at h; cases h
  ⟨fun b o h _ => s b o h, dm, fun _ h => h, fun _ h => .inl h, ⟨[], by simp⟩, fun _ h => .inl h, fun z a h q => z a h (dm a q)⟩
def FpOk (g : G) (H : Hp) (P : Fp) : Prop := ∀ a, P a → Mut (H a) ∧ ¬ g.Z a
section
variable {K : PySem.W.Frag} {g g' : G} {H H' : Hp}
theorem tup_held {a : Addr} {vs : List V} {P P' : Fp} (h : H a = some (.tup vs)) (s : Step g P H g' P' H') (ok : FpOk g H P) : H' a = some (.tup vs) := s.keep _ _ h fun z => by have := (ok a z).1; rw [h] at this; exact this
theorem Lk.held {o : Bool} {a : Addr} {vs : List V} {P P' : Fp} (h : Lk g H o a vs) (hn : o = true → ¬ P a) (s : Step g P H g' P' H') (ok : FpOk g H P) : Lk g' H' o a vs := by
  cases o with
  | true =>
    obtain ⟨h1, h2⟩ := h
    refine ⟨s.keep _ _ h1 (hn rfl), fun z => ?_⟩
    rcases s.zn _ z with q | q | q
    · exact h2 q
    · exact hn rfl q
    · rw [h1] at q; cases q
  | false =>
    obtain ⟨h1, h2⟩ := h
    exact ⟨s.keep _ _ h1 fun z => (ok a z).2 h2, s.zm _ h2⟩
mutual
theorem Rep.held {P P' : Fp} (s : Step g P H g' P' H') (ok : FpOk g H P) : ∀ {d : Dt} {v : V} {R : Fp}, Rep K g H d v R → Disj R P → Rep K g' H' d v R
  | .non, v, R, h, _ => by unfold Rep at h ⊢; exact h
  | .bl b, v, R, h, _ => by unfold Rep at h ⊢; exact h
  | .int i, v, R, h, _ => by unfold Rep at h ⊢; exact h
  | .str l, v, R, h, _ => by unfold Rep at h ⊢; exact h
  | .ty n, v, R, h, _ => by unfold Rep at h ⊢; exact h
  | .mtp n, v, R, h, _ => by unfold Rep at h ⊢; exact h
  | .tup ds, v, R, h, n => by
    unfold Rep at h ⊢
    obtain ⟨a, vs, e, h1, h2⟩ := h
    exact ⟨a, vs, e, tup_held h1 s ok, Reps.held s ok h2 n⟩
  | .lst o ds, v, R, h, n => by
    unfold Rep at h ⊢
    obtain ⟨a, vs, R', e, h1, h2, h3, h4, h5⟩ := h
    exact ⟨a, vs, R', e, h1.held (fun z q => n a ((h5 a).mpr (.inl ⟨z, rfl⟩)) q) s ok, Reps.held s ok h2 fun b q z => n b ((h5 b).mpr (.inr q)) z, h3, h4, h5⟩
  | .dic o kvs, v, R, h, _ => by unfold Rep at h; exact h.elim
  | .ref k, v, R, h, _ => by
    unfold Rep at h ⊢
    obtain ⟨⟨a, h1, h2⟩, h3⟩ := h
    obtain ⟨r, e⟩ := s.mu
    refine ⟨⟨a, ?_, h2⟩, h3⟩
    rw [e, List.getElem?_append_left (List.getElem?_eq_some_iff.mp h1).1]; exact h1
  | .scr ns, v, R, h, _ => by
    unfold Rep at h ⊢
    obtain ⟨⟨a, h1, h2⟩, h3⟩ := h
    refine ⟨⟨a, h1, ?_⟩, h3⟩
    rcases h2 with ⟨o, h2⟩ | h2
    · exact .inl ⟨o, s.keep _ _ h2 fun z => by have := (ok a z).1; rw [h2] at this; exact this⟩
    · exact .inr h2
theorem Reps.held {P P' : Fp} (s : Step g P H g' P' H') (ok : FpOk g H P) : ∀ {ds : List Dt} {vs : List V} {R : Fp}, Reps K g H ds vs R → Disj R P → Reps K g' H' ds vs R
  | [], vs, R, h, _ => by unfold Reps at h ⊢; exact h
  | d :: ds, vs, R, h, n => by
    unfold Reps at h ⊢
    obtain ⟨v, r, P1, P2, e, h1, h2, h3, h4⟩ := h
    exact ⟨v, r, P1, P2, e, Rep.held s ok h1 fun a q z => n a ((h4 a).mpr (.inl q)) z, Reps.held s ok h2 fun a q z => n a ((h4 a).mpr (.inr q)) z, h3, h4⟩
end
mutual
theorem Rep.fpOk : ∀ {d : Dt} {v : V} {R : Fp}, Rep K g H d v R → FpOk g H R
  | .non, v, R, h, a, q => by unfold Rep at h; exact (h.2 a q).elim
  | .bl b, v, R, h, a, q => by unfold Rep at h; exact (h.2 a q).elim
  | .int i, v, R, h, a, q => by unfold Rep at h; exact (h.2 a q).elim
  | .str l, v, R, h, a, q => by unfold Rep at h; exact (h.2 a q).elim
  | .ty n, v, R, h, a, q => by unfold Rep at h; exact (h.2 a q).elim
  | .mtp n, v, R, h, a, q => by unfold Rep at h; exact (h.2 a q).elim
  | .tup ds, v, R, h, a, q => by
    unfold Rep at h
    obtain ⟨_, vs, e, h1, h2⟩ := h
    exact Reps.fpOk h2 a q
  | .lst o ds, v, R, h, a, q => by
    unfold Rep at h
    obtain ⟨b, vs, R', e, h1, h2, h3, h4, h5⟩ := h
    rcases (h5 a).mp q with ⟨z, rfl⟩ | z
    · subst z; exact ⟨by rw [h1.1]; trivial, h1.2⟩
    · exact Reps.fpOk h2 a z
  | .dic o kvs, v, R, h, a, q => by unfold Rep at h; exact h.elim
  | .ref k, v, R, h, a, q => by unfold Rep at h; exact (h.2 a q).elim
  | .scr ns, v, R, h, a, q => by unfold Rep at h; exact (h.2 a q).elim
theorem Reps.fpOk : ∀ {ds : List Dt} {vs : List V} {R : Fp}, Reps K g H ds vs R → FpOk g H R
  | [], vs, R, h, a, q => by unfold Reps at h; exact (h.2 a q).elim
  | d :: ds, vs, R, h, a, q => by
    unfold Reps at h
    obtain ⟨v, r, P1, P2, e, h1, h2, h3, h4⟩ := h
    rcases (h4 a).mp q with z | z
    · exact Rep.fpOk h1 a z
    · exact Reps.fpOk h2 a z
end
mutual
theorem Rep.none_of_cp : ∀ {d : Dt} {v : V} {R : Fp}, Rep K g H d v R → d.cp = true → ∀ a, ¬ R a
  | .non, v, R, h, _ => by unfold Rep at h; exact h.2
  | .bl b, v, R, h, _ => by unfold Rep at h; exact h.2
  | .int i, v, R, h, _ => by unfold Rep at h; exact h.2
  | .str l, v, R, h, _ => by unfold Rep at h; exact h.2
  | .ty n, v, R, h, _ => by unfold Rep at h; exact h.2
  | .mtp n, v, R, h, _ => by unfold Rep at h; exact h.2
  | .tup ds, v, R, h, c => by
    unfold Rep at h
    unfold Dt.cp at c
    obtain ⟨_, vs, e, h1, h2⟩ := h
    exact Reps.none_of_cp h2 c
  | .lst o ds, v, R, h, c => by
    unfold Rep at h
    unfold Dt.cp at c
    obtain ⟨b, vs, R', e, h1, h2, h3, h4, h5⟩ := h
    simp only [Bool.and_eq_true, Bool.not_eq_true'] at c
    intro a q
    rcases (h5 a).mp q with ⟨z, rfl⟩ | z
    · rw [c.1] at z; cases z
    · exact h4 c.1 a z
  | .dic o kvs, v, R, h, c => by unfold Rep at h; exact h.elim
  | .ref k, v, R, h, _ => by unfold Rep at h; exact h.2
  | .scr ns, v, R, h, _ => by unfold Rep at h; exact h.2
theorem Reps.none_of_cp : ∀ {ds : List Dt} {vs : List V} {R : Fp}, Reps K g H ds vs R → cps ds = true → ∀ a, ¬ R a
  | [], vs, R, h, _ => by unfold Reps at h; exact h.2
  | d :: ds, vs, R, h, c => by
    unfold Reps at h
    unfold cps at c
    rw [Bool.and_eq_true] at c
    obtain ⟨v, r, P1, P2, e, h1, h2, h3, h4⟩ := h
    intro a q
    rcases (h4 a).mp q with z | z
    · exact Rep.none_of_cp h1 c.1 a z
    · exact Reps.none_of_cp h2 c.2 a z
end
def G.add (g : G) (P : Fp) : G := { g with Z := fun a => g.Z a ∨ P a }
def nop : Fp := fun _ => False
mutual
theorem Rep.freeze {P : Fp} : ∀ {d : Dt} {v : V} {R : Fp}, Rep K g H d v R → (∀ a, R a → P a) → (∀ a, P a → Mut (H a)) → Rep K (g.add P) H d.fz v nop
  | .non, v, R, h, _, _ => by unfold Rep at h; unfold Dt.fz Rep; exact ⟨h.1, fun _ z => z⟩
  | .bl b, v, R, h, _, _ => by unfold Rep at h; unfold Dt.fz Rep; exact ⟨h.1, fun _ z => z⟩
  | .int i, v, R, h, _, _ => by unfold Rep at h; unfold Dt.fz Rep; exact ⟨h.1, fun _ z => z⟩
  | .str l, v, R, h, _, _ => by unfold Rep at h; unfold Dt.fz Rep; exact ⟨h.1, fun _ z => z⟩
  | .ty n, v, R, h, _, _ => by unfold Rep at h; unfold Dt.fz Rep; exact ⟨h.1, fun _ z => z⟩
  | .mtp n, v, R, h, _, _ => by unfold Rep at h; unfold Dt.fz Rep; exact ⟨h.1, fun _ z => z⟩
  | .tup ds, v, R, h, s, m => by
    unfold Rep at h; unfold Dt.fz Rep
    obtain ⟨a, vs, e, h1, h2⟩ := h
    exact ⟨a, vs, e, h1, Reps.freeze h2 s m⟩
  | .lst o ds, v, R, h, s, m => by
    unfold Rep at h; unfold Dt.fz Rep
    obtain ⟨a, vs, R', e, h1, h2, h3, h4, h5⟩ := h
    refine ⟨a, vs, nop, e, ?_, Reps.freeze h2 (fun b q => s b ((h5 b).mpr (.inr q))) m, fun z => z, fun _ _ z => z, fun b => ⟨fun z => z.elim, fun z => z.elim (fun q => by cases q.1) id⟩⟩
    cases o with
    | true => exact ⟨h1.1, .inr (s a ((h5 a).mpr (.inl ⟨rfl, rfl⟩)))⟩
    | false => exact ⟨h1.1, .inl h1.2⟩
  | .dic o kvs, v, R, h, _, _ => by unfold Rep at h; exact h.elim
  | .ref k, v, R, h, _, _ => by unfold Rep at h; unfold Dt.fz Rep; exact ⟨h.1, fun _ z => z⟩
  | .scr ns, v, R, h, _, _ => by unfold Rep at h; unfold Dt.fz Rep; exact ⟨h.1, fun _ z => z⟩
theorem Reps.freeze {P : Fp} : ∀ {ds : List Dt} {vs : List V} {R : Fp}, Reps K g H ds vs R → (∀ a, R a → P a) → (∀ a, P a → Mut (H a)) → Reps K (g.add P) H (fzs ds) vs nop
  | [], vs, R, h, _, _ => by unfold Reps at h; unfold fzs Reps; exact ⟨h.1, fun _ z => z⟩
  | d :: ds, vs, R, h, s, m => by
    unfold Reps at h; unfold fzs Reps
    obtain ⟨v, r, P1, P2, e, h1, h2, h3, h4⟩ := h
    exact ⟨v, r, nop, nop, e, Rep.freeze h1 (fun a q => s a ((h4 a).mpr (.inl q))) m, Reps.freeze h2 (fun a q => s a ((h4 a).mpr (.inr q))) m, fun _ z => z.elim, fun a => ⟨fun z => z.elim, fun z => z.elim id id⟩⟩
end
theorem Step.freeze {P : Fp} (ok : FpOk g H P) : Step g P H (g.add P) nop H :=
  ⟨fun _ _ h _ => h, fun _ h => h, fun _ h => .inl h, fun a h => h.elim .inl fun q => .inr (.inl q), ⟨[], by show g.μ = _; simp⟩, fun _ h => h.elim, fun z a h q => h.elim (fun h => z a h q) fun h => by have := (ok a h).1; rw [q] at this; exact this⟩
theorem Reps.nil : Reps K g H [] [] nop := by unfold Reps; exact ⟨rfl, fun _ z => z⟩
theorem Reps.cons {d : Dt} {v : V} {ds : List Dt} {vs : List V} {P1 P2 : Fp} (h1 : Rep K g H d v P1) (h2 : Reps K g H ds vs P2) (n : Disj P1 P2) : Reps K g H (d :: ds) (v :: vs) fun a => P1 a ∨ P2 a := by
  unfold Reps; exact ⟨v, vs, P1, P2, rfl, h1, h2, n, fun _ => Iff.rfl⟩
theorem Reps.len : ∀ {ds : List Dt} {vs : List V} {R : Fp}, Reps K g H ds vs R → ds.length = vs.length
  | [], vs, R, h => by unfold Reps at h; rw [h.1]; rfl
  | d :: ds, vs, R, h => by
    unfold Reps at h
    obtain ⟨v, r, P1, P2, rfl, h1, h2, _⟩ := h
    simp [h2.len]
theorem Reps.get : ∀ {ds : List Dt} {vs : List V} {R : Fp} {i : Nat} {d : Dt}, Reps K g H ds vs R → ds[i]? = some d → ∃ v P, vs[i]? = some v ∧ Rep K g H d v P ∧ ∀ a, P a → R a
  | [], _, _, _, _, _, e => by simp at e
  | d :: ds, vs, R, i, d', h, e => by
    unfold Reps at h
    obtain ⟨v, r, P1, P2, rfl, h1, h2, _, h4⟩ := h
    cases i with
    | zero => simp at e; subst e; exact ⟨v, P1, rfl, h1, fun a q => (h4 a).mpr (.inl q)⟩
    | succ i =>
      obtain ⟨v', P, e', h', s⟩ := h2.get (i := i) (by simpa using e)
      exact ⟨v', P, by simpa using e', h', fun a q => (h4 a).mpr (.inr (s a q))⟩
theorem Rep.iff {d : Dt} {v : V} {P Q : Fp} (h : Rep K g H d v P) (e : ∀ a, Q a ↔ P a) : Rep K g H d v Q := by
  have : Q = P := funext fun a => propext (e a)
  rw [this]; exact h
theorem Reps.iff {d : List Dt} {v : List V} {P Q : Fp} (h : Reps K g H d v P) (e : ∀ a, Q a ↔ P a) : Reps K g H d v Q := by
  have : Q = P := funext fun a => propext (e a)
  rw [this]; exact h
theorem Reps.app : ∀ {ds es : List Dt} {vs us : List V} {P Q : Fp}, Reps K g H ds vs P → Reps K g H es us Q → Disj P Q → Reps K g H (ds ++ es) (vs ++ us) fun a => P a ∨ Q a
  | [], es, vs, us, P, Q, h, k, _ => by
    unfold Reps at h
    obtain ⟨rfl, n⟩ := h
    exact k.iff fun a => ⟨fun z => z.elim (fun q => (n a q).elim) id, .inr⟩
  | d :: ds, es, vs, us, P, Q, h, k, n => by
    unfold Reps at h
    obtain ⟨v, r, P1, P2, rfl, h1, h2, h3, h4⟩ := h
    have t := Reps.app h2 k fun a q z => n a ((h4 a).mpr (.inr q)) z
    refine (Reps.cons h1 t fun a q z => z.elim (fun z => h3 a q z) fun z => n a ((h4 a).mpr (.inl q)) z).iff fun a => ?_
    rw [h4 a]
    exact ⟨fun z => z.elim (fun z => z.elim .inl fun q => .inr (.inl q)) fun q => .inr (.inr q), fun z => z.elim (fun q => .inl (.inl q)) fun z => z.elim (fun q => .inl (.inr q)) .inr⟩
theorem Reps.cp {ds : List Dt} {vs : List V} {R : Fp} (h : Reps K g H ds vs R) (c : cps ds = true) : Reps K g H ds vs nop := h.iff fun a => ⟨fun z => z.elim, fun z => (h.none_of_cp c a z).elim⟩
theorem Rep.cp {d : Dt} {v : V} {R : Fp} (h : Rep K g H d v R) (c : d.cp = true) : Rep K g H d v nop := h.iff fun a => ⟨fun z => z.elim, fun z => (h.none_of_cp c a z).elim⟩
end
end Q
namespace Q
open PySem L2
structure Ob where
  c : Nat
  fs : List (Str × Dt)
structure M where
  ρ : List (Option Dt)
  S : List Ob
abbrev Ev (α : Type) := M → Option (α × M)
def M.set (m : M) (i : Nat) (d : Option Dt) : M := { m with ρ := m.ρ.set i d }
def RSt (_ : PySem.W.Frag) (_ : G) (_ : Hp) (S : List Ob) (P : Fp) : Prop := S = [] ∧ ∀ a, ¬ P a
section
variable (K : PySem.W.Frag) (g : G) (H : Hp)
def REnv : List (Option Dt) → St → Fp → Prop
  | [], σ, P => σ = [] ∧ ∀ a, ¬ P a
  | none :: ρ, σ, P => ∃ x r, σ = x :: r ∧ REnv ρ r P
  | some d :: ρ, σ, P => ∃ v r P1 P2, σ = some v :: r ∧ Rep K g H d v P1 ∧ REnv ρ r P2 ∧ Disj P1 P2 ∧ ∀ a, P a ↔ P1 a ∨ P2 a
def Rel (m : M) (σ : St) (P : Fp) : Prop := Zd g H ∧ ∃ P1 P2, REnv K g H m.ρ σ P1 ∧ RSt K g H m.S P2 ∧ Disj P1 P2 ∧ ∀ a, P a ↔ P1 a ∨ P2 a
end
section
variable {K : PySem.W.Frag} {g g' : G} {H H' : Hp}
theorem REnv.iff {ρ : List (Option Dt)} {σ : St} {P Q : Fp} (h : REnv K g H ρ σ P) (e : ∀ a, Q a ↔ P a) : REnv K g H ρ σ Q := by
  have : Q = P := funext fun a => propext (e a)
  rw [this]; exact h
theorem REnv.len : ∀ {ρ : List (Option Dt)} {σ : St} {P : Fp}, REnv K g H ρ σ P → ρ.length = σ.length
  | [], σ, P, h => by unfold REnv at h; rw [h.1]; rfl
  | none :: ρ, σ, P, h => by unfold REnv at h; obtain ⟨x, r, rfl, h⟩ := h; simp [h.len]
  | some d :: ρ, σ, P, h => by unfold REnv at h; obtain ⟨v, r, P1, P2, rfl, h1, h2, _⟩ := h; simp [h2.len]
theorem REnv.held {P P' : Fp} (s : Step g P H g' P' H') (ok : FpOk g H P) : ∀ {ρ : List (Option Dt)} {σ : St} {R : Fp}, REnv K g H ρ σ R → Disj R P → REnv K g' H' ρ σ R
  | [], σ, R, h, _ => by unfold REnv at h ⊢; exact h
  | none :: ρ, σ, R, h, n => by unfold REnv at h ⊢; obtain ⟨x, r, e, h⟩ := h; exact ⟨x, r, e, REnv.held s ok h n⟩
  | some d :: ρ, σ, R, h, n => by
    unfold REnv at h ⊢
    obtain ⟨v, r, P1, P2, e, h1, h2, h3, h4⟩ := h
    exact ⟨v, r, P1, P2, e, h1.held s ok fun a q z => n a ((h4 a).mpr (.inl q)) z, REnv.held s ok h2 fun a q z => n a ((h4 a).mpr (.inr q)) z, h3, h4⟩
theorem REnv.fpOk : ∀ {ρ : List (Option Dt)} {σ : St} {R : Fp}, REnv K g H ρ σ R → FpOk g H R
  | [], σ, R, h, a, q => by unfold REnv at h; exact (h.2 a q).elim
  | none :: ρ, σ, R, h, a, q => by unfold REnv at h; obtain ⟨x, r, e, h⟩ := h; exact REnv.fpOk h a q
  | some d :: ρ, σ, R, h, a, q => by
    unfold REnv at h
    obtain ⟨v, r, P1, P2, e, h1, h2, h3, h4⟩ := h
    rcases (h4 a).mp q with z | z
    · exact h1.fpOk a z
    · exact REnv.fpOk h2 a z
theorem REnv.take : ∀ {ρ : List (Option Dt)} {σ : St} {P : Fp} {i : Nat} {d : Dt}, REnv K g H ρ σ P → ρ[i]? = some (some d) →
    ∃ v P1 P2, σ[i]? = some (some v) ∧ Rep K g H d v P1 ∧ REnv K g H (ρ.set i none) σ P2 ∧ Disj P1 P2 ∧ ∀ a, P a ↔ P1 a ∨ P2 a
  | [], _, _, _, _, _, e => by simp at e
  | none :: ρ, σ, P, i, d, h, e => by
    unfold REnv at h
    obtain ⟨x, r, rfl, h⟩ := h
    cases i with
    | zero => simp at e
    | succ i =>
      obtain ⟨v, P1, P2, e1, h1, h2, h3, h4⟩ := h.take (i := i) (by simpa using e)
      refine ⟨v, P1, P2, by simpa using e1, h1, ?_, h3, h4⟩
      show REnv K g H (none :: ρ.set i none) (x :: r) P2
      unfold REnv; exact ⟨x, r, rfl, h2⟩
  | some d' :: ρ, σ, P, i, d, h, e => by
    unfold REnv at h
    obtain ⟨v', r, Q1, Q2, rfl, k1, k2, k3, k4⟩ := h
    cases i with
    | zero =>
      simp at e; subst e
      refine ⟨v', Q1, Q2, rfl, k1, ?_, k3, k4⟩
      show REnv K g H (none :: ρ) (some v' :: r) Q2
      unfold REnv; exact ⟨_, r, rfl, k2⟩
    | succ i =>
      obtain ⟨v, P1, P2, e1, h1, h2, h3, h4⟩ := k2.take (i := i) (by simpa using e)
      refine ⟨v, P1, fun a => Q1 a ∨ P2 a, by simpa using e1, h1, ?_, fun a q z => z.elim (fun z => k3 a z ((h4 a).mpr (.inl q))) fun z => h3 a q z, fun a => ?_⟩
      · show REnv K g H (some d' :: ρ.set i none) (some v' :: r) _
        unfold REnv
        exact ⟨v', r, Q1, P2, rfl, k1, h2, fun a q z => k3 a q ((h4 a).mpr (.inr z)), fun _ => Iff.rfl⟩
      · rw [k4 a, h4 a]
        exact ⟨fun z => z.elim (fun q => .inr (.inl q)) fun z => z.elim .inl fun q => .inr (.inr q), fun z => z.elim (fun q => .inr (.inl q)) fun z => z.elim .inl fun q => .inr (.inr q)⟩
theorem REnv.put : ∀ {ρ : List (Option Dt)} {σ : St} {P1 P2 : Fp} {i : Nat} {d : Dt} {v : V}, REnv K g H ρ σ P2 → ρ[i]? = some none → σ[i]? = some (some v) → Rep K g H d v P1 → Disj P1 P2 →
    REnv K g H (ρ.set i (some d)) σ fun a => P1 a ∨ P2 a
  | [], _, _, _, _, _, _, _, e, _, _, _ => by simp at e
  | none :: ρ, σ, P1, P2, i, d, v, h, e, es, h1, n => by
    unfold REnv at h
    obtain ⟨x, r, rfl, h⟩ := h
    cases i with
    | zero =>
      simp at es; subst es
      show REnv K g H (some d :: ρ) (some v :: r) _
      unfold REnv; exact ⟨v, r, P1, P2, rfl, h1, h, n, fun _ => Iff.rfl⟩
    | succ i =>
      have := h.put (i := i) (by simpa using e) (by simpa using es) h1 n
      show REnv K g H (none :: ρ.set i (some d)) (x :: r) _
      unfold REnv; exact ⟨x, r, rfl, this⟩
  | some d' :: ρ, σ, P1, P2, i, d, v, h, e, es, h1, n => by
    unfold REnv at h
    obtain ⟨v', r, Q1, Q2, rfl, k1, k2, k3, k4⟩ := h
    cases i with
    | zero => simp at e
    | succ i =>
      have := k2.put (i := i) (by simpa using e) (by simpa using es) h1 fun a q z => n a q ((k4 a).mpr (.inr z))
      show REnv K g H (some d' :: ρ.set i (some d)) (some v' :: r) _
      unfold REnv
      refine ⟨v', r, Q1, _, rfl, k1, this, fun a q z => z.elim (fun z => n a z ((k4 a).mpr (.inl q))) fun z => k3 a q z, fun a => ?_⟩
      show P1 a ∨ P2 a ↔ _
      rw [k4 a]
      exact ⟨fun z => z.elim (fun q => .inr (.inl q)) fun z => z.elim .inl fun q => .inr (.inr q), fun z => z.elim (fun q => .inr (.inl q)) fun z => z.elim .inl fun q => .inr (.inr q)⟩
theorem REnv.store : ∀ {ρ : List (Option Dt)} {σ : St} {P : Fp} {i : Nat} (x : Option V), REnv K g H ρ σ P → ∃ P2, REnv K g H (ρ.set i none) (σ.set i x) P2 ∧ ∀ a, P2 a → P a
  | [], σ, P, i, x, h => by unfold REnv at h; obtain ⟨rfl, n⟩ := h; exact ⟨P, by show REnv K g H [] [] P; unfold REnv; exact ⟨rfl, n⟩, fun _ q => q⟩
  | none :: ρ, σ, P, i, x, h => by
    unfold REnv at h
    obtain ⟨y, r, rfl, h⟩ := h
    cases i with
    | zero => exact ⟨P, by show REnv K g H (none :: ρ) (x :: r) P; unfold REnv; exact ⟨x, r, rfl, h⟩, fun _ q => q⟩
    | succ i =>
      obtain ⟨P2, h2, s⟩ := h.store (i := i) x
      exact ⟨P2, by show REnv K g H (none :: ρ.set i none) (y :: r.set i x) P2; unfold REnv; exact ⟨y, _, rfl, h2⟩, s⟩
  | some d :: ρ, σ, P, i, x, h => by
    unfold REnv at h
    obtain ⟨v, r, Q1, Q2, rfl, k1, k2, k3, k4⟩ := h
    cases i with
    | zero => exact ⟨Q2, by show REnv K g H (none :: ρ) (x :: r) Q2; unfold REnv; exact ⟨x, r, rfl, k2⟩, fun a q => (k4 a).mpr (.inr q)⟩
    | succ i =>
      obtain ⟨P2, h2, s⟩ := k2.store (i := i) x
      refine ⟨fun a => Q1 a ∨ P2 a, ?_, fun a q => (k4 a).mpr (q.elim .inl fun q => .inr (s a q))⟩
      show REnv K g H (some d :: ρ.set i none) (some v :: r.set i x) _
      unfold REnv
      exact ⟨v, _, Q1, P2, rfl, k1, h2, fun a q z => k3 a q (s a z), fun _ => Iff.rfl⟩
theorem RSt.held {P P' R : Fp} {S : List Ob} (s : Step g P H g' P' H') (ok : FpOk g H P) (h : RSt K g H S R) (n : Disj R P) : RSt K g' H' S R := h
theorem RSt.fpOk {S : List Ob} {R : Fp} (h : RSt K g H S R) : FpOk g H R := fun a q => (h.2 a q).elim
theorem Rel.held {P P' R : Fp} {m : M} {σ : St} (s : Step g P H g' P' H') (ok : FpOk g H P) (h : Rel K g H m σ R) (n : Disj R P) : Rel K g' H' m σ R := by
  obtain ⟨zd, P1, P2, h1, h2, h3, h4⟩ := h
  exact ⟨s.zd zd, P1, P2, h1.held s ok fun a q z => n a ((h4 a).mpr (.inl q)) z, h2.held s ok fun a q z => n a ((h4 a).mpr (.inr q)) z, h3, h4⟩
theorem Rel.fpOk {m : M} {σ : St} {R : Fp} (h : Rel K g H m σ R) : FpOk g H R := by
  obtain ⟨_, P1, P2, h1, h2, h3, h4⟩ := h
  intro a q
  rcases (h4 a).mp q with z | z
  · exact h1.fpOk a z
  · exact h2.fpOk a z
theorem Rel.iff {m : M} {σ : St} {P Q : Fp} (h : Rel K g H m σ P) (e : ∀ a, Q a ↔ P a) : Rel K g H m σ Q := by
  have : Q = P := funext fun a => propext (e a)
  rw [this]; exact h
theorem Rel.len {m : M} {σ : St} {P : Fp} (h : Rel K g H m σ P) : m.ρ.length = σ.length := let ⟨_, _, _, h1, _⟩ := h; h1.len
theorem Rel.zd {m : M} {σ : St} {P : Fp} (h : Rel K g H m σ P) : Zd g H := h.1
theorem FpOk.or {P Q : Fp} (h : FpOk g H P) (k : FpOk g H Q) : FpOk g H fun a => P a ∨ Q a := fun a q => q.elim (h a) (k a)
theorem Rel.take {m : M} {σ : St} {P : Fp} {i : Nat} {d : Dt} (h : Rel K g H m σ P) (e : m.ρ[i]? = some (some d)) :
    ∃ v P1 P2, σ[i]? = some (some v) ∧ Rep K g H d v P1 ∧ Rel K g H (m.set i none) σ P2 ∧ Disj P1 P2 ∧ ∀ a, P a ↔ P1 a ∨ P2 a := by
  obtain ⟨zd, Q1, Q2, h1, h2, h3, h4⟩ := h
  obtain ⟨v, P1, P2, e1, k1, k2, k3, k4⟩ := h1.take e
  refine ⟨v, P1, fun a => P2 a ∨ Q2 a, e1, k1, ⟨zd, P2, Q2, k2, h2, fun a q z => h3 a ((k4 a).mpr (.inr q)) z, fun _ => Iff.rfl⟩, fun a q z => z.elim (fun z => k3 a q z) fun z => h3 a ((k4 a).mpr (.inl q)) z, fun a => ?_⟩
  rw [h4 a, k4 a]; exact or_assoc
theorem Rel.put {m : M} {σ : St} {P1 P2 : Fp} {i : Nat} {d : Dt} {v : V} (h : Rel K g H m σ P2) (e : m.ρ[i]? = some none) (es : σ[i]? = some (some v)) (h1 : Rep K g H d v P1) (n : Disj P1 P2) :
    Rel K g H (m.set i (some d)) σ fun a => P1 a ∨ P2 a := by
  obtain ⟨zd, Q1, Q2, k1, k2, k3, k4⟩ := h
  refine ⟨zd, _, Q2, k1.put e es h1 fun a q z => n a q ((k4 a).mpr (.inl z)), k2, fun a q z => q.elim (fun q => n a q ((k4 a).mpr (.inr z))) fun q => k3 a q z, fun a => ?_⟩
  show P1 a ∨ P2 a ↔ _
  rw [k4 a]; exact or_assoc.symm
theorem Rel.store {m : M} {σ : St} {P : Fp} (i : Nat) (x : Option V) (h : Rel K g H m σ P) : ∃ P2, Rel K g H (m.set i none) (σ.set i x) P2 ∧ ∀ a, P2 a → P a := by
  obtain ⟨zd, Q1, Q2, k1, k2, k3, k4⟩ := h
  obtain ⟨P2, h2, s⟩ := k1.store (i := i) x
  exact ⟨fun a => P2 a ∨ Q2 a, ⟨zd, P2, Q2, h2, k2, fun a q z => k3 a (s a q) z, fun _ => Iff.rfl⟩, fun a q => (k4 a).mpr (q.elim (fun q => .inl (s a q)) .inr)⟩
theorem Rel.see {m : M} {σ : St} {P : Fp} {i : Nat} {d : Dt} (h : Rel K g H m σ P) (e : m.ρ[i]? = some (some d)) : ∃ v P1, σ[i]? = some (some v) ∧ Rep K g H d v P1 ∧ ∀ a, P1 a → P a := by
  obtain ⟨v, P1, P2, e1, k1, k2, k3, k4⟩ := h.take e
  exact ⟨v, P1, e1, k1, fun a q => (k4 a).mpr (.inl q)⟩
theorem Rel.setNew {m : M} {σ : St} {P Pv : Fp} {i : Nat} {d : Dt} {v : V} (h : Rel K g H m σ P) (hi : i < m.ρ.length) (hv : Rep K g H d v Pv) (n : Disj Pv P) :
    ∃ P2, Rel K g H (m.set i (some d)) (σ.set i (some v)) P2 ∧ ∀ a, P2 a → P a ∨ Pv a := by
  obtain ⟨P2, h2, s⟩ := h.store i (some v)
  have hl : i < σ.length := by rw [← h.len]; exact hi
  have := h2.put (i := i) (by show (m.ρ.set i none)[i]? = _; rw [List.getElem?_set_self hi]) (List.getElem?_set_self hl) hv fun a q z => n a q (s a z)
  have e : (m.set i none).set i (some d) = m.set i (some d) := by unfold M.set; simp
  rw [e] at this
  exact ⟨_, this, fun a q => q.elim .inr fun q => .inl (s a q)⟩
end
def tq (K : PySem.W.Frag) (f : Ev Dt) : TE := fun σ H Q => ∃ g m P, Rel K g H m σ P ∧ ∃ d m', f m = some (d, m') ∧
  ∀ g' P' Pv v H', Step g P H g' (fun a => P' a ∨ Pv a) H' → Rep K g' H' d v Pv → Rel K g' H' m' σ P' → Disj P' Pv → Q v H'
structure QE (X : Cx) (e : Expr) (f : Ev Dt) : Prop where
  h : PE X e (tq X.K f)
def tqT (K : PySem.W.Frag) (f : Ev Bool) : TT := fun σ H Q => ∃ g m P, Rel K g H m σ P ∧ ∃ d m', f m = some (d, m') ∧ ∀ g' P' H', Step g P H g' P' H' → Rel K g' H' m' σ P' → Q d H'
structure QT (X : Cx) (e : Expr) (f : Ev Bool) : Prop where
  h : PT X e (tqT X.K f)
inductive Om where
  | ev (f : Ev Dt)
  | rf (i : Nat)
def tOm (K : PySem.W.Frag) : Om → TE
  | .ev f => tq K f
  | .rf i => tVar i
def evOms : List Om → Ev (List Dt)
  | [], m => some ([], m)
  | .ev f :: os, m => do
    let (d, m1) ← f m
    let (ds, m2) ← evOms os m1
    some (d :: ds, m2)
  | .rf i :: os, m => do
    let _ ← (m.ρ[i]?).join
    let (ds, m1) ← evOms os m
    let d ← (m1.ρ[i]?).join
    some (d :: ds, m1)
def tOms (K : PySem.W.Frag) : List Om → TA
  | [] => tNil
  | o :: os => tCons (tOm K o) (tOms K os)
def RepAs (K : PySem.W.Frag) (g : G) (H : Hp) (ρ : List (Option Dt)) (σ : St) : List Om → List Dt → List V → Fp → Prop
  | [], ds, vs, P => ds = [] ∧ vs = [] ∧ ∀ a, ¬ P a
  | .ev _ :: os, ds, vs, P => ∃ d dr v vr P1 P2, ds = d :: dr ∧ vs = v :: vr ∧ Rep K g H d v P1 ∧ RepAs K g H ρ σ os dr vr P2 ∧ Disj P1 P2 ∧ ∀ a, P a ↔ P1 a ∨ P2 a
  | .rf i :: os, ds, vs, P => ∃ d dr v vr, ds = d :: dr ∧ vs = v :: vr ∧ σ[i]? = some (some v) ∧ ρ[i]? = some (some d) ∧ RepAs K g H ρ σ os dr vr P
theorem join_some {α : Type} {o : Option (Option α)} {x : α} (h : o.join = some x) : o = some (some x) := by
  cases o with
  | none => cases h
  | some y => cases y with | none => cases h | some z => cases h; rfl
theorem oms_run {K : PySem.W.Frag} {σ : St} : ∀ (os : List Om) {g : G} {m : M} {P : Fp} {H : Hp} {ds : List Dt} {m' : M} {Q : List V → Hp → Prop}, Rel K g H m σ P → evOms os m = some (ds, m') →
    (∀ g' P' Pv vs H', Step g P H g' (fun a => P' a ∨ Pv a) H' → RepAs K g' H' m'.ρ σ os ds vs Pv → Rel K g' H' m' σ P' → Disj P' Pv → Q vs H') → tOms K os σ H Q
  | [], g, m, P, H, ds, m', Q, r, e, k => by
    simp only [evOms, Option.some.injEq, Prod.mk.injEq] at e
    obtain ⟨rfl, rfl⟩ := e
    refine k g P nop [] H (Step.refl.sub (fun _ q => q) fun _ q => q.elim id False.elim) ?_ r fun _ _ z => z
    unfold RepAs; exact ⟨rfl, rfl, fun _ z => z⟩
  | .ev f :: os, g, m, P, H, ds, m', Q, r, e, k => by
    simp only [evOms, Option.bind_eq_bind, Option.bind_eq_some_iff, Option.some.injEq, Prod.mk.injEq, Prod.exists] at e
    obtain ⟨d, m1, e1, dr, m2, e2, rfl, rfl⟩ := e
    show tq K f σ H fun x H1 => tOms K os σ H1 fun xs H2 => Q (x :: xs) H2
    refine ⟨g, m, P, r, d, m1, e1, fun g1 P1 Pv v H1 s1 rv r1 n1 => ?_⟩
    refine oms_run os r1 e2 fun g2 P2 Pw vs H2 s2 rs r2 n2 => ?_
    have hv2 := rv.held s2 r1.fpOk fun a q z => n1 a z q
    have fo := rv.fpOk
    have dn : Disj Pv fun a => P2 a ∨ Pw a := fun a q z => by
      rcases s2.nw a z with z | z
      · exact n1 a z q
      · have := (fo a q).1; rw [z] at this; exact this
    refine k g2 P2 (fun a => Pv a ∨ Pw a) (v :: vs) H2 (s1.trans (s2.frame (R := Pv)) |>.sub (fun _ q => q) fun a q => ?_) ?_ r2 fun a q z => ?_
    · exact q.elim (fun q => .inl (.inl q)) fun q => q.elim .inr fun q => .inl (.inr q)
    · unfold RepAs; exact ⟨d, dr, v, vs, Pv, Pw, rfl, rfl, hv2, rs, fun a q z => dn a q (.inr z), fun _ => Iff.rfl⟩
    · exact z.elim (fun z => dn a z (.inl q)) fun z => n2 a q z
  | .rf i :: os, g, m, P, H, ds, m', Q, r, e, k => by
    simp only [evOms, Option.bind_eq_bind, Option.bind_eq_some_iff, Option.some.injEq, Prod.mk.injEq, Prod.exists] at e
    obtain ⟨d0, e0, dr, m2, e2, d, e1, rfl, rfl⟩ := e
    have hv : ∃ v, σ[i]? = some (some v) := let ⟨v, _, q, _⟩ := r.see (join_some e0); ⟨v, q⟩
    obtain ⟨v, hv⟩ := hv
    show ∃ x, σ[i]? = some (some x) ∧ tOms K os σ H fun xs H2 => Q (x :: xs) H2
    refine ⟨v, hv, oms_run os r e2 fun g2 P2 Pw vs H2 s2 rs r2 n2 => k g2 P2 Pw (v :: vs) H2 s2 ?_ r2 n2⟩
    unfold RepAs; exact ⟨d, dr, v, vs, rfl, rfl, hv, join_some e1, rs⟩
end Q
namespace Q
open PySem L2
theorem PE.imp {X : Cx} {e : Expr} {t t' : TE} (h : PE X e t) (k : ∀ σ H Q, t' σ H Q → t σ H Q) : PE X e t' := fun pins s σ H Q I q => h pins s σ H Q I (k σ H Q q)
theorem PT.imp {X : Cx} {e : Expr} {t t' : TT} (h : PT X e t) (k : ∀ σ H Q, t' σ H Q → t σ H Q) : PT X e t' := fun pins s σ H Q I q => h pins s σ H Q I (k σ H Q q)
theorem PW.imp {X : Cx} {e : Expr} {t t' : TT} (h : PW X e t) (k : ∀ σ H Q, t' σ H Q → t σ H Q) : PW X e t' := fun wh pins s σ H Q I q => h wh pins s σ H Q I (k σ H Q q)
theorem PA.imp {X : Cx} {e : List Expr} {t t' : TA} (h : PA X e t) (k : ∀ σ H Q, t' σ H Q → t σ H Q) : PA X e t' := fun pos pins s σ H Q I q => h pos pins s σ H Q I (k σ H Q q)
theorem PS.imp {X : Cx} {e : Stmt} {t t' : TS} (h : PS X e t) (k : ∀ D σ H, t' D σ H → t D σ H) : PS X e t' := fun pins s σ H D I q => h pins s σ H D I (k D σ H q)
theorem PSs.imp {X : Cx} {e : List Stmt} {t t' : TS} (h : PSs X e t) (k : ∀ D σ H, t' D σ H → t D σ H) : PSs X e t' := fun pins s σ H D I q => h pins s σ H D I (k D σ H q)
def RA (K : PySem.W.Frag) (g : G) (H : Hp) : List Dt → List V → Prop
  | [], vs => vs = []
  | d :: ds, vs => ∃ v r P, vs = v :: r ∧ Rep K g H d v P ∧ RA K g H ds r
def New (K : PySem.W.Frag) (g : G) (H : Hp) (d : Dt) (v : V) (H' : Hp) : Prop := Same H H' ∧ ∃ Pv, Rep K g H' d v Pv ∧ ∀ a, Pv a → H a = none
abbrev Pr := List Dt → Option Dt
abbrev RdL := List V → Hp → VK → Prop
def PrimR (K : PySem.W.Frag) (p : Pr) (R : RdL) : Prop := ∀ g H ds vs d Q, Zd g H → RA K g H ds vs → p ds = some d → (∀ v H', New K g H d v H' → Q v H') → R vs H Q
def evPrim (p : Pr) (os : List Om) (m : M) : Option (Dt × M) := do
  let (ds, m') ← evOms os m
  let d ← p ds
  some (d, m')
section
variable {K : PySem.W.Frag} {g : G} {H H' : Hp} {σ : St}
theorem RepAs.ra {m : M} {P : Fp} (r : Rel K g H m σ P) : ∀ {os : List Om} {ds : List Dt} {vs : List V} {Pv : Fp}, RepAs K g H m.ρ σ os ds vs Pv → RA K g H ds vs
  | [], ds, vs, Pv, h => by unfold RepAs at h; obtain ⟨rfl, rfl, _⟩ := h; unfold RA; rfl
  | .ev f :: os, ds, vs, Pv, h => by
    unfold RepAs at h
    obtain ⟨d, dr, v, vr, P1, P2, rfl, rfl, h1, h2, _⟩ := h
    unfold RA; exact ⟨v, vr, P1, rfl, h1, RepAs.ra r h2⟩
  | .rf i :: os, ds, vs, Pv, h => by
    unfold RepAs at h
    obtain ⟨d, dr, v, vr, rfl, rfl, h1, h2, h3⟩ := h
    obtain ⟨v', P1, e, k, _⟩ := r.see h2
    rw [h1] at e; cases e
    unfold RA; exact ⟨v, vr, P1, rfl, k, RepAs.ra r h3⟩
theorem New.go {g0 : G} {P0 : Fp} {H0 : Hp} {P Px : Fp} {m : M} {d : Dt} {v : V} (s : Step g0 P0 H0 g (fun a => P a ∨ Px a) H) (r : Rel K g H m σ P) (n : New K g H d v H') :
    ∃ Pv, Step g0 P0 H0 g (fun a => P a ∨ Pv a) H' ∧ Rep K g H' d v Pv ∧ Rel K g H' m σ P ∧ Disj P Pv := by
  obtain ⟨sm, Pv, h1, h2⟩ := n
  refine ⟨Pv, ?_, h1, r.held (Step.same (P := nop) sm) (fun _ z => z.elim) fun _ _ z => z, fun a q z => ?_⟩
  · have s2 : Step g (fun a => P a ∨ Px a) H g (fun a => P a ∨ Pv a) H' :=
      ⟨fun b o h _ => sm b o h, (Step.same (g := g) (P := nop) sm).dom, fun _ h => h, fun _ h => .inl h, ⟨[], by simp⟩, fun a h => h.elim (fun q => .inl (.inl q)) fun q => .inr (h2 a q), (Step.same (g := g) (P := nop) sm).zd⟩
    exact s.trans s2
  · have := (r.fpOk a q).1; rw [h2 a z] at this; exact this
theorem prim_run {p : Pr} {os : List Om} {R : RdL} (hp : PrimR K p R) {Q : VK} (h : tq K (evPrim p os) σ H Q) : tOms K os σ H fun vs H1 => R vs H1 Q := by
  obtain ⟨g, m, P, r, d, m', e, k⟩ := h
  simp only [evPrim, Option.bind_eq_bind, Option.bind_eq_some_iff, Option.some.injEq, Prod.mk.injEq, Prod.exists] at e
  obtain ⟨ds, m1, e1, d', e2, rfl, rfl⟩ := e
  refine oms_run os r e1 fun g' P' Pv vs H1 s rs r1 n1 => hp g' H1 ds vs d' Q r1.zd (RepAs.ra r1 rs) e2 fun v H2 nw => ?_
  obtain ⟨Pw, s2, h1, r2, n2⟩ := New.go s r1 nw
  exact k g' P' Pw v H2 s2 h1 r2 n2
end
section
variable {X : Cx} {a b c e : Expr} {es : List Expr} {pos : Pos} {oa ob oc : Om} {os : List Om} {f fa fb : Ev Dt} {p : Pr}
structure QO (X : Cx) (e : Expr) (o : Om) : Prop where
  h : PE X e (tOm X.K o)
structure QA (X : Cx) (es : List Expr) (os : List Om) : Prop where
  h : PA X es (tOms X.K os)
theorem qo_ev (h : QE X e f) : QO X e (.ev f) := ⟨h.h⟩
theorem qo_rf {i : Nat} (h : PE X e (tVar i)) : QO X e (.rf i) := ⟨h⟩
theorem qa_nil : QA X [] [] := ⟨pa_nil⟩
theorem qa_cons (h1 : QO X e oa) (h2 : QA X es os) (hs : starEach (e :: es) X.env = (false, eval e X.env) :: starEach es X.env := by rfl) : QA X (e :: es) (oa :: os) := ⟨pa_cons h1.h h2.h hs⟩
def L2r (r : R2) : RdL := fun vs H Q => match vs with | [x, y] => r x y H Q | _ => False
def L1r (r : V → Hp → VK → Prop) : RdL := fun vs H Q => match vs with | [x] => r x H Q | _ => False
theorem q_op {op : Operator} {r : R2} (ho : OpR X (binaryOp op) r) (hp : PrimR X.K p (L2r r)) (ha : QO X a oa) (hb : QO X b ob) : QE X (.BinOp a op b pos) (evPrim p [oa, ob]) := ⟨PE.imp (pe_op ho ha.h hb.h) fun _ _ _ h => prim_run hp h⟩
theorem q_un {op : UnaryOp} {r : V → Hp → VK → Prop} (ho : UnR X (unaryOp op) r) (hp : PrimR X.K p (L1r r)) (ha : QO X a oa) : QE X (.UnaryOp op a pos) (evPrim p [oa]) := ⟨PE.imp (pe_un ho ha.h) fun _ _ _ h => prim_run hp h⟩
theorem q_cmp {op : CmpOp} {r : R2} (ho : OpR X (compareOp op) r) (hp : PrimR X.K p (L2r r)) (ha : QO X a oa) (hb : QO X b ob) (hm : behindInMarks op b = false) : QE X (.Compare a [op] [b] pos) (evPrim p [oa, ob]) := ⟨PE.imp (pe_cmpR ho ha.h hb.h hm) fun _ _ _ h => prim_run hp h⟩
theorem q_ix {r : R2} (hr : IxR X r) (hp : PrimR X.K p (L2r r)) (ha : QO X a oa) (hb : QO X b ob) (hs : PlainIx b) : QE X (.Subscript a b pos) (evPrim p [oa, ob]) := ⟨PE.imp (pe_ix hr ha.h hb.h hs) fun _ _ _ h => prim_run hp h⟩
theorem q_callB {x : Str} {id : String} {r : RdL} {pn : Pos} (hc : CallR X (.builtin id) r) (hp : PrimR X.K p r) (hg : Gl X x) (hm : X.mg x = none) (hv : bootBuiltins x = some (.builtin id)) (ha : QA X (e :: es) os) (hn : x ≠ "__name__" := by decide) (hdb : (x == ("__debug__" : Str)) = false := by decide)
    (he : starEach (e :: es) X.env = (false, eval e X.env) :: starEach es X.env := by rfl) (hpl : (backTo pos (starEach es X.env)).any (·.1) = false := by rfl) : QE X (.Call (.Name x pn) (e :: es) [] pos) (evPrim p os) := ⟨PE.imp (pe_callB hc hg hm hv ha.h hn hdb he hpl) fun _ _ _ h => prim_run hp h⟩
theorem q_callTy {x : Str} {T : String} {r : RdL} {pn : Pos} (hc : CallR X (.type T) r) (hp : PrimR X.K p r) (hg : Gl X x) (hm : X.mg x = none) (hv : bootBuiltins x = some (.type T)) (ha : QA X (e :: es) os) (hn : x ≠ "__name__" := by decide) (hdb : (x == ("__debug__" : Str)) = false := by decide)
    (he : starEach (e :: es) X.env = (false, eval e X.env) :: starEach es X.env := by rfl) (hpl : (backTo pos (starEach es X.env)).any (·.1) = false := by rfl) : QE X (.Call (.Name x pn) (e :: es) [] pos) (evPrim p os) := ⟨PE.imp (pe_callTy hc hg hm hv ha.h hn hdb he hpl) fun _ _ _ h => prim_run hp h⟩
def evVar (i : Nat) (m : M) : Option (Dt × M) := do
  let d ← (m.ρ[i]?).join
  if d.cp then some (d, m) else some (d.fz, m.set i (some d.fz))
def evMov (i : Nat) (m : M) : Option (Dt × M) := do
  let d ← (m.ρ[i]?).join
  some (d, m.set i none)
def evC (d : Dt) (m : M) : Option (Dt × M) := some (d, m)
theorem q_var {i : Nat} (h : PE X e (tVar i)) : QE X e (evVar i) := ⟨PE.imp h fun σ H Q q => by
  obtain ⟨g, m, P, r, d, m', e, k⟩ := q
  simp only [evVar, Option.bind_eq_bind, Option.bind_eq_some_iff] at e
  obtain ⟨d0, e0, e⟩ := e
  obtain ⟨v, P1, P2, e1, k1, k2, k3, k4⟩ := r.take (join_some e0)
  refine ⟨v, e1, ?_⟩
  split at e
  · rename_i c
    simp only [Option.some.injEq, Prod.mk.injEq] at e
    obtain ⟨rfl, rfl⟩ := e
    exact k g P nop v H (Step.refl.sub (fun _ q => q) fun _ q => q.elim id False.elim) (k1.cp c) r fun _ _ z => z
  · simp only [Option.some.injEq, Prod.mk.injEq] at e
    obtain ⟨rfl, rfl⟩ := e
    have fr : Rep _ (g.add P1) H d0.fz v nop := k1.freeze (fun _ q => q) fun a q => (k1.fpOk a q).1
    have st : Step g P1 H (g.add P1) nop H := Step.freeze k1.fpOk
    have r2 := k2.held st k1.fpOk fun a q z => k3 a z q
    have hi : i < m.ρ.length := (List.getElem?_eq_some_iff.mp (join_some e0)).1
    have r3 := r2.put (i := i) (d := d0.fz) (by show (m.ρ.set i none)[i]? = _; rw [List.getElem?_set_self hi]) e1 fr fun _ z => z.elim
    have em : (m.set i none).set i (some d0.fz) = m.set i (some d0.fz) := by unfold M.set; simp
    rw [em] at r3
    refine k (g.add P1) _ nop v H ?_ fr r3 fun _ _ z => z
    refine (st.frame (R := P2)).sub (fun a q => (k4 a).mpr q) fun a q => ?_
    exact q.elim (fun q => q.elim (fun z => z.elim) .inr) fun z => z.elim⟩
theorem q_mov {i : Nat} (h : PE X e (tVar i)) : QE X e (evMov i) := ⟨PE.imp h fun σ H Q q => by
  obtain ⟨g, m, P, r, d, m', e, k⟩ := q
  simp only [evMov, Option.bind_eq_bind, Option.bind_eq_some_iff, Option.some.injEq, Prod.mk.injEq] at e
  obtain ⟨d0, e0, rfl, rfl⟩ := e
  obtain ⟨v, P1, P2, e1, k1, k2, k3, k4⟩ := r.take (join_some e0)
  exact ⟨v, e1, k g P2 P1 v H (Step.refl.sub (fun _ q => q) fun a q => (k4 a).mpr q.symm) k1 k2 fun a q z => k3 a z q⟩⟩
theorem q_c {v : V} {d : Dt} (h : PE X e (tC v)) (hd : ∀ K g H, Rep K g H d v nop) : QE X e (evC d) := ⟨PE.imp h fun σ H Q q => by
  obtain ⟨g, m, P, r, d', m', e, k⟩ := q
  simp only [evC, Option.some.injEq, Prod.mk.injEq] at e
  obtain ⟨rfl, rfl⟩ := e
  exact k g P nop v H (Step.refl.sub (fun _ q => q) fun _ q => q.elim id False.elim) (hd _ g H) r fun _ _ z => z⟩
theorem q_int {i j pos} : QE X (.Constant (.int i) j pos) (evC (.int i)) := q_c pe_int fun _ _ _ => by unfold Rep; exact ⟨rfl, fun _ z => z⟩
theorem q_bl {b j pos} : QE X (.Constant (.bool b) j pos) (evC (.bl b)) := q_c pe_bl fun _ _ _ => by unfold Rep; exact ⟨rfl, fun _ z => z⟩
theorem q_str {x : Str} {l : List Nat} {j pos} (h : x = tx l := by rfl) : QE X (.Constant (.str x) j pos) (evC (.str l)) := q_c pe_str fun _ _ _ => by unfold Rep; exact ⟨by rw [h], fun _ z => z⟩
def evSeq (t : List Dt → Dt) (os : List Om) (m : M) : Option (Dt × M) := do
  let (ds, m') ← evOms os m
  if ds.length ≤ 1000000 then some (t ds, m') else none
def evd : List Om → Bool
  | [] => true
  | .ev _ :: os => evd os
  | .rf _ :: _ => false
theorem RepAs.reps {K : PySem.W.Frag} {g : G} {H : Hp} {ρ : List (Option Dt)} {σ : St} : ∀ {os : List Om} {ds : List Dt} {vs : List V} {P : Fp}, evd os = true → RepAs K g H ρ σ os ds vs P → Reps K g H ds vs P
  | [], ds, vs, P, _, h => by unfold RepAs at h; obtain ⟨rfl, rfl, n⟩ := h; unfold Reps; exact ⟨rfl, n⟩
  | .ev f :: os, ds, vs, P, e, h => by
    unfold RepAs at h
    obtain ⟨d, dr, v, vr, P1, P2, rfl, rfl, h1, h2, h3, h4⟩ := h
    unfold Reps; exact ⟨v, vr, P1, P2, rfl, h1, RepAs.reps (by unfold evd at e; exact e) h2, h3, h4⟩
  | .rf i :: os, ds, vs, P, e, h => by unfold evd at e; cases e
theorem q_tup {x1} (hq : QA X es os) (he : evd os = true := by rfl) : QE X (.Tuple es x1 pos) (evSeq .tup os) := ⟨PE.imp (pe_tup hq.h) fun σ H Q q => by
  obtain ⟨g, m, P, r, d, m', e, k⟩ := q
  simp only [evSeq, Option.bind_eq_bind, Option.bind_eq_some_iff, Prod.exists] at e
  obtain ⟨ds, m1, e1, e⟩ := e
  split at e
  · rename_i hz
    simp only [Option.some.injEq, Prod.mk.injEq] at e
    obtain ⟨rfl, rfl⟩ := e
    refine oms_run os r e1 fun g' P' Pv vs H1 s rs r1 n1 => ?_
    have rp := RepAs.reps he rs
    refine ⟨by rw [← rp.len]; exact Nat.le_trans hz (by decide), fun p hp => ?_⟩
    have sm := same_new hp (.tup vs)
    have st := Step.same (g := g') (P := nop) sm
    have h2 := rp.held st (fun _ z => z.elim) fun _ _ z => z
    refine k g' P' Pv (.ref p) _ ?_ ?_ (r1.held st (fun _ z => z.elim) fun _ _ z => z) n1
    · exact s.trans (Step.same sm)
    · unfold Rep; exact ⟨p, vs, rfl, upd_same, h2⟩
  · cases e⟩
theorem q_lst (hq : QA X es os) (he : evd os = true := by rfl) : QE X (.List es pos) (evSeq (.lst true) os) := ⟨PE.imp (pe_lst hq.h) fun σ H Q q => by
  obtain ⟨g, m, P, r, d, m', e, k⟩ := q
  simp only [evSeq, Option.bind_eq_bind, Option.bind_eq_some_iff, Prod.exists] at e
  obtain ⟨ds, m1, e1, e⟩ := e
  split at e
  · rename_i hz
    simp only [Option.some.injEq, Prod.mk.injEq] at e
    obtain ⟨rfl, rfl⟩ := e
    refine oms_run os r e1 fun g' P' Pv vs H1 s rs r1 n1 => ?_
    have rp := RepAs.reps he rs
    refine ⟨by rw [← rp.len]; exact Nat.le_trans hz (by decide), fun p hp => ?_⟩
    have sm := same_new hp (.lst vs)
    have st := Step.same (g := g') (P := nop) sm
    have h2 := rp.held st (fun _ z => z.elim) fun _ _ z => z
    have np : ∀ {R : Fp}, FpOk g' H1 R → ¬ R p := fun ok z => by have := (ok p z).1; rw [hp] at this; exact this
    have nz : ¬ g'.Z p := fun z => r1.zd p z hp
    refine k g' P' (fun b => b = p ∨ Pv b) (.ref p) _ ?_ ?_ (r1.held st (fun _ z => z.elim) fun _ _ z => z) fun a q z => z.elim (fun z => np r1.fpOk (z ▸ q)) fun z => n1 a q z
    · refine s.trans ⟨fun b o h _ => sm b o h, st.dom, fun _ h => h, fun _ h => .inl h, ⟨[], by simp⟩, fun a h => ?_, st.zd⟩
      exact h.elim (fun q => .inl (.inl q)) fun q => q.elim (fun q => .inr (q ▸ hp)) fun q => .inl (.inr q)
    · unfold Rep
      exact ⟨p, vs, Pv, rfl, ⟨upd_same, nz⟩, h2, np rp.fpOk, fun z => by (cases z), fun b => ⟨fun z => z.elim (fun z => .inl ⟨rfl, z⟩) .inr, fun z => z.elim (fun z => .inl z.2) .inr⟩⟩
  · cases e⟩
end
end Q
namespace Q
open PySem L2
def tstB (f : Ev Dt) (m : M) : Option (Bool × M) := do
  let (d, m') ← f m
  match d with
  | .bl b => some (b, m')
  | _ => none
def tru : Dt → Option Bool
  | .non => some false
  | .bl b => some b
  | .int i => some (i != 0)
  | .str l => if l.length ≤ 1000000 then some (!l.isEmpty) else none
  | .tup ds => some (!ds.isEmpty)
  | .lst _ ds => some (!ds.isEmpty)
  | .scr ns => some (!ns.isEmpty)
  | _ => none
def evTru (o : Om) (m : M) : Option (Bool × M) := do
  let (ds, m') ← evOms [o] m
  match ds with
  | [d] => do
    let b ← tru d
    some (b, m')
  | _ => none
def evAnd (f g : Ev Bool) (m : M) : Option (Bool × M) := do
  let (b, m1) ← f m
  if b then g m1 else some (false, m1)
def evOr (f g : Ev Bool) (m : M) : Option (Bool × M) := do
  let (b, m1) ← f m
  if b then some (true, m1) else g m1
def evNot (f : Ev Bool) (m : M) : Option (Bool × M) := do
  let (b, m1) ← f m
  some (!b, m1)
def evIf {α : Type} (c : Ev Bool) (f g : M → Option α) (m : M) : Option α := do
  let (b, m1) ← c m
  if b then f m1 else g m1
def evChain2 (p' : Pr) (oc : Om) (d2 : Dt) (m1 : M) : Option (Dt × M) := do
  let (es, m2) ← evOms [oc] m1
  match es with
  | [d3] => do
    let r' ← p' [d2, d3]
    some (r', m2)
  | _ => none
def evChain (p p' : Pr) (oa ob oc : Om) (m : M) : Option (Dt × M) := do
  let (ds, m1) ← evOms [oa, ob] m
  match ds with
  | [d1, d2] => do
    let r ← p [d1, d2]
    match r with
    | .bl true => bif d2.cp then evChain2 p' oc d2 m1 else none
    | .bl false => some (.bl false, m1)
    | _ => none
  | _ => none
section
variable {K : PySem.W.Frag} {σ : St} {H : Hp}
theorem rep_bl {g : G} {b : Bool} {v : V} {P : Fp} (h : Rep K g H (.bl b) v P) : v = .bl b := by unfold Rep at h; exact h.1
theorem rep_int {g : G} {b : Int} {v : V} {P : Fp} (h : Rep K g H (.int b) v P) : v = .int b := by unfold Rep at h; exact h.1
theorem rep_str {g : G} {b : List Nat} {v : V} {P : Fp} (h : Rep K g H (.str b) v P) : v = .str (tx b) := by unfold Rep at h; exact h.1
theorem rep_non {g : G} {v : V} {P : Fp} (h : Rep K g H .non v P) : v = .non := by unfold Rep at h; exact h.1
theorem Rep.tup {g : G} {ds : List Dt} {v : V} {P : Fp} (h : Rep K g H (.tup ds) v P) : ∃ a vs, v = .ref a ∧ SqT K H a vs ∧ Reps K g H ds vs P := by unfold Rep at h; obtain ⟨a, vs, e, h1, h2⟩ := h; exact ⟨a, vs, e, .inl (.inl h1), h2⟩
theorem Rep.tupH {g : G} {ds : List Dt} {v : V} {P : Fp} (h : Rep K g H (.tup ds) v P) : ∃ a vs, v = .ref a ∧ H a = some (.tup vs) ∧ Reps K g H ds vs P := by unfold Rep at h; exact h
theorem Rep.lst {g : G} {o : Bool} {ds : List Dt} {v : V} {P : Fp} (h : Rep K g H (.lst o ds) v P) : ∃ a vs P', v = .ref a ∧ H a = some (.lst vs) ∧ Reps K g H ds vs P' := by
  unfold Rep at h
  obtain ⟨a, vs, P', e, h1, h2, _⟩ := h
  refine ⟨a, vs, P', e, ?_, h2⟩
  cases o <;> exact h1.1
theorem Rep.scr {g : G} {ns : List Int} {v : V} {P : Fp} (h : Rep K g H (.scr ns) v P) : ∃ a, v = .ref a ∧ SqL K H a (ns.map V.int) := by unfold Rep at h; obtain ⟨⟨a, e, h1⟩, _⟩ := h; exact ⟨a, e, h1.sq⟩
theorem tstB_tq {f : Ev Dt} {Q : Bool → Hp → Prop} (h : tqT K (tstB f) σ H Q) : tq K f σ H fun x H' => ∃ k, x = .bl k ∧ Q k H' := by
  obtain ⟨g, m, P, r, b, m', e, k⟩ := h
  simp only [tstB, Option.bind_eq_bind, Option.bind_eq_some_iff, Prod.exists] at e
  obtain ⟨d, m1, e1, e⟩ := e
  cases d <;> simp only [Option.some.injEq, Prod.mk.injEq, reduceCtorEq] at e
  obtain ⟨rfl, rfl⟩ := e
  exact ⟨g, m, P, r, _, _, e1, fun g' P' Pv v H' s rv r1 n => ⟨_, rep_bl rv, k g' P' H' (s.sub (fun _ q => q) fun _ q => .inl q) r1⟩⟩
theorem tru_ok' {g : G} {d : Dt} {v : V} {P : Fp} {b : Bool} (h : Rep K g H d v P) (e : tru d = some b) : TruV K v H b := by
  cases d with
  | non => rw [rep_non h]; simp only [tru, Option.some.injEq] at e; exact e.symm
  | bl c => rw [rep_bl h]; simp only [tru, Option.some.injEq] at e; exact e.symm
  | int i => rw [rep_int h]; simp only [tru, Option.some.injEq] at e; exact e.symm
  | str l =>
    rw [rep_str h]
    simp only [tru] at e
    split at e
    · simp only [Option.some.injEq] at e
      rename_i hl
      refine ⟨by rw [tx_len]; exact Nat.le_trans hl (by decide), ?_⟩
      rw [tx_len, ← e]
      cases l with
      | nil => rfl
      | cons x xs =>
        show true = _
        symm
        rw [bne_iff_ne]
        simp only [List.length_cons]
        omega
    · cases e
  | tup ds =>
    simp only [tru, Option.some.injEq] at e
    obtain ⟨a, vs, rfl, h1, h2⟩ := h.tup
    refine .inr (.inl ⟨vs, h1, ?_⟩)
    rw [← e]
    have := h2.len
    cases ds <;> cases vs <;> simp_all
  | lst o ds =>
    simp only [tru, Option.some.injEq] at e
    obtain ⟨a, vs, P', rfl, h1, h2⟩ := h.lst
    refine .inl ⟨vs, .inl (.inl h1), ?_⟩
    rw [← e]
    have := h2.len
    cases ds <;> cases vs <;> simp_all
  | scr ns =>
    simp only [tru, Option.some.injEq] at e
    obtain ⟨a, rfl, h1⟩ := h.scr
    refine .inl ⟨_, h1, ?_⟩
    rw [← e]
    cases ns <;> simp
  | dic _ _ => simp [tru] at e
  | ref _ => simp [tru] at e
  | ty _ => simp [tru] at e
  | mtp _ => simp [tru] at e
theorem om_run {o : Om} {g : G} {m m' : M} {P : Fp} {d : Dt} {Q : VK} (r : Rel K g H m σ P) (e : evOms [o] m = some ([d], m'))
    (k : ∀ g' P' Pv Pr v H', Step g P H g' (fun a => P' a ∨ Pv a) H' → Rep K g' H' d v Pr → Rel K g' H' m' σ P' → Disj P' Pv → Q v H') : tOm K o σ H Q := by
  have q := oms_run (Q := fun vs H' => ∃ v, vs = [v] ∧ Q v H') [o] r e fun g' P' Pv vs H' s rs r1 n => by
    have ra := RepAs.ra r1 rs
    unfold RA at ra
    obtain ⟨v, vr, Pr, rfl, h1, h2⟩ := ra
    unfold RA at h2
    subst h2
    exact ⟨v, rfl, k g' P' Pv Pr v H' s h1 r1 n⟩
  have q2 : tOm K o σ H fun x H1 => ∃ v, [x] = [v] ∧ Q v H1 := q
  have mono : ∀ (Q1 Q2 : VK), (∀ v H, Q1 v H → Q2 v H) → tOm K o σ H Q1 → tOm K o σ H Q2 := by
    intro Q1 Q2 h12 t
    cases o with
    | ev f =>
      obtain ⟨g, m, P, r, d, m', e, k⟩ := t
      exact ⟨g, m, P, r, d, m', e, fun g' P' Pv v H' a b c d => h12 _ _ (k g' P' Pv v H' a b c d)⟩
    | rf i => obtain ⟨v, e, q⟩ := t; exact ⟨v, e, h12 _ _ q⟩
  refine mono _ _ (fun v H1 q => ?_) q2
  obtain ⟨v', e', q⟩ := q
  cases e'
  exact q
end
section
variable {X : Cx} {a b c e : Expr} {es rest : List Expr} {pos : Pos} {oa ob oc : Om} {os : List Om} {f fa fb : Ev Dt} {t u : Ev Bool} {p p' : Pr}
theorem qt_cmp {op : CmpOp} {r : R2} (ho : OpR X (compareOp op) r) (hp : PrimR X.K p (L2r r)) (ha : QO X a oa) (hb : QO X b ob) (hm : behindInMarks op b = false) : QT X (.Compare a [op] [b] pos) (tstB (evPrim p [oa, ob])) := ⟨PT.imp (pt_cmpR ho ha.h hb.h hm) fun _ _ _ h => prim_run hp (tstB_tq h)⟩
theorem qt_tru (ha : QO X a oa) (he : ∀ whole, isTrue a X.env whole = (do let v ← whole; standAt a.pos; holding [v] (truthy v))) : QT X a (evTru oa) := ⟨PT.imp (pt_truth ha.h he) fun σ H Q h => by
  obtain ⟨g, m, P, r, b, m', e, k⟩ := h
  simp only [evTru, Option.bind_eq_bind, Option.bind_eq_some_iff, Prod.exists] at e
  obtain ⟨ds, m1, e1, e⟩ := e
  split at e
  · rename_i d
    simp only [Option.bind_eq_some_iff, Option.some.injEq, Prod.mk.injEq] at e
    obtain ⟨b', e2, rfl, rfl⟩ := e
    exact om_run r e1 fun g' P' Pv Pr v H' s rv r1 n => ⟨b', tru_ok' rv e2, k g' P' H' (s.sub (fun _ q => q) fun _ q => .inl q) r1⟩
  · cases e⟩
theorem tqT_and {K : PySem.W.Frag} {σ : St} {H : Hp} {Q : Bool → Hp → Prop} (h : tqT K (evAnd t u) σ H Q) : tAnd (tqT K t) (tqT K u) σ H Q := by
  obtain ⟨g, m, P, r, b, m', e, k⟩ := h
  simp only [evAnd, Option.bind_eq_bind, Option.bind_eq_some_iff, Prod.exists] at e
  obtain ⟨b1, m1, e1, e⟩ := e
  refine ⟨g, m, P, r, b1, m1, e1, fun g' P' H' s r1 => ?_⟩
  cases b1 with
  | true => rw [if_pos rfl] at e ⊢; exact ⟨g', m1, P', r1, b, m', e, fun g2 P2 H2 s2 r2 => k g2 P2 H2 (s.trans s2) r2⟩
  | false =>
    rw [if_neg (by decide)] at e
    rw [if_neg (by decide)]
    simp only [Option.some.injEq, Prod.mk.injEq] at e
    obtain ⟨rfl, rfl⟩ := e
    exact k g' P' H' s r1
theorem tqT_or {K : PySem.W.Frag} {σ : St} {H : Hp} {Q : Bool → Hp → Prop} (h : tqT K (evOr t u) σ H Q) : tOr (tqT K t) (tqT K u) σ H Q := by
  obtain ⟨g, m, P, r, b, m', e, k⟩ := h
  simp only [evOr, Option.bind_eq_bind, Option.bind_eq_some_iff, Prod.exists] at e
  obtain ⟨b1, m1, e1, e⟩ := e
  refine ⟨g, m, P, r, b1, m1, e1, fun g' P' H' s r1 => ?_⟩
  cases b1 with
  | false =>
    rw [if_neg (by decide)] at e
    rw [if_neg (by decide)]
    exact ⟨g', m1, P', r1, b, m', e, fun g2 P2 H2 s2 r2 => k g2 P2 H2 (s.trans s2) r2⟩
  | true =>
    rw [if_pos rfl] at e ⊢
    simp only [Option.some.injEq, Prod.mk.injEq] at e
    obtain ⟨rfl, rfl⟩ := e
    exact k g' P' H' s r1
structure QW (X : Cx) (e : Expr) (f : Ev Bool) : Prop where
  h : PW X e (tqT X.K f)
theorem qw_and1 (ha : QT X a t) : QW X (.BoolOp .And [a] pos) t := ⟨pw_and1 ha.h⟩
theorem qw_or1 (ha : QT X a t) : QW X (.BoolOp .Or [a] pos) t := ⟨pw_or1 ha.h⟩
theorem qw_and (ha : QT X a t) (hb : QW X (.BoolOp .And (b :: rest) pos) u) : QW X (.BoolOp .And (a :: b :: rest) pos) (evAnd t u) := ⟨PW.imp (pw_and ha.h hb.h) fun _ _ _ h => tqT_and h⟩
theorem qw_or (ha : QT X a t) (hb : QW X (.BoolOp .Or (b :: rest) pos) u) : QW X (.BoolOp .Or (a :: b :: rest) pos) (evOr t u) := ⟨PW.imp (pw_or ha.h hb.h) fun _ _ _ h => tqT_or h⟩
theorem qt_w (h : QW X e t) : QT X e t := ⟨PW.pt h.h⟩
theorem qt_not (ha : QT X a t) : QT X (.UnaryOp .Not a pos) (evNot t) := ⟨PT.imp (pt_not ha.h) fun σ H Q h => by
  obtain ⟨g, m, P, r, b, m', e, k⟩ := h
  simp only [evNot, Option.bind_eq_bind, Option.bind_eq_some_iff, Prod.exists, Option.some.injEq, Prod.mk.injEq] at e
  obtain ⟨b1, m1, e1, rfl, rfl⟩ := e
  exact ⟨g, m, P, r, b1, m1, e1, k⟩⟩
theorem rep_bl_i {K : PySem.W.Frag} {g : G} {H : Hp} {b : Bool} : Rep K g H (.bl b) (.bl b) nop := by unfold Rep; exact ⟨rfl, fun _ z => z⟩
theorem q_one {op} (h : QE X a f) : QE X (.BoolOp op [a] pos) f := ⟨pe_one h.h⟩
def evAndV (f g : Ev Dt) (m : M) : Option (Dt × M) := do
  let (d, m1) ← f m
  match d with
  | .bl true => g m1
  | .bl false => some (.bl false, m1)
  | _ => none
def evOrV (f g : Ev Dt) (m : M) : Option (Dt × M) := do
  let (d, m1) ← f m
  match d with
  | .bl true => some (.bl true, m1)
  | .bl false => g m1
  | _ => none
def evNotV (f : Ev Dt) (m : M) : Option (Dt × M) := do
  let (d, m1) ← f m
  match d with
  | .bl b => some (.bl (!b), m1)
  | _ => none
theorem q_and (ha : QE X a fa) (hb : QE X (.BoolOp .And (b :: rest) pos) fb) : QE X (.BoolOp .And (a :: b :: rest) pos) (evAndV fa fb) := ⟨PE.imp (pe_and ha.h hb.h) fun σ H Q h => by
  obtain ⟨g, m, P, r, d, m', e, k⟩ := h
  simp only [evAndV, Option.bind_eq_bind, Option.bind_eq_some_iff, Prod.exists] at e
  obtain ⟨d1, m1, e1, e⟩ := e
  refine ⟨g, m, P, r, d1, m1, e1, fun g' P' Pv v H' s rv r1 n => ?_⟩
  have s' : Step g P H g' P' H' := s.sub (fun _ q => q) fun _ q => .inl q
  split at e
  · exact ⟨true, rep_bl rv, by rw [if_pos rfl]; exact ⟨g', m1, P', r1, d, m', e, fun g2 P2 Pw v2 H2 s2 rv2 r2 n2 => k g2 P2 Pw v2 H2 (s'.trans s2) rv2 r2 n2⟩⟩
  · simp only [Option.some.injEq, Prod.mk.injEq] at e
    obtain ⟨rfl, rfl⟩ := e
    exact ⟨false, rep_bl rv, by rw [if_neg (by decide)]; exact k g' P' nop _ H' (s'.sub (fun _ q => q) fun _ q => q.elim id False.elim) rep_bl_i r1 fun _ _ z => z⟩
  · cases e⟩
end
end Q
namespace Q
open PySem L2
inductive Fl where
  | nx | ct | bk | rt (d : Dt)
abbrev Es := M → Option (Fl × M)
def Io (io : List Nat) (σ σ' : St) : Prop := ∀ i ∈ io, σ'[i]? = σ[i]?
theorem Io.refl {io : List Nat} {σ : St} : Io io σ σ := fun _ _ => rfl
theorem Io.trans {io : List Nat} {σ σ1 σ2 : St} (a : Io io σ σ1) (b : Io io σ1 σ2) : Io io σ σ2 := fun i h => (b i h).trans (a i h)
def AfterS (K : PySem.W.Frag) (io : List Nat) (g : G) (P : Fp) (H : Hp) (σ : St) (D : Ends) (m' : M) : Fl → Prop
  | .nx => ∀ g' P' σ' H', Step g P H g' P' H' → Io io σ σ' → Rel K g' H' m' σ' P' → D.nx σ' H'
  | .ct => ∀ g' P' σ' H', Step g P H g' P' H' → Io io σ σ' → Rel K g' H' m' σ' P' → D.ct σ' H'
  | .bk => ∀ g' P' σ' H', Step g P H g' P' H' → Io io σ σ' → Rel K g' H' m' σ' P' → D.bk σ' H'
  | .rt d => ∀ g' P' Pv σ' v H', Step g P H g' (fun a => P' a ∨ Pv a) H' → Io io σ σ' → Rep K g' H' d v Pv → Rel K g' H' m' σ' P' → Disj P' Pv → D.rt v H'
def tqS (K : PySem.W.Frag) (io : List Nat) (f : Es) : TS := fun D σ H => ∃ g m P, Rel K g H m σ P ∧ ∃ fl m', f m = some (fl, m') ∧ AfterS K io g P H σ D m' fl
structure QS (X : Cx) (io : List Nat) (s : Stmt) (f : Es) : Prop where
  h : PS X s (tqS X.K io f)
structure QSs (X : Cx) (io : List Nat) (s : List Stmt) (f : Es) : Prop where
  h : PSs X s (tqS X.K io f)
theorem AfterS.later {K : PySem.W.Frag} {io : List Nat} {g g1 : G} {P P1 : Fp} {H H1 : Hp} {σ σ1 : St} {D : Ends} {m' : M} {fl : Fl} (s : Step g P H g1 P1 H1) (i : Io io σ σ1) (h : AfterS K io g P H σ D m' fl) : AfterS K io g1 P1 H1 σ1 D m' fl := by
  cases fl with
  | nx => exact fun g' P' σ' H' s' i' r => h g' P' σ' H' (s.trans s') (i.trans i') r
  | ct => exact fun g' P' σ' H' s' i' r => h g' P' σ' H' (s.trans s') (i.trans i') r
  | bk => exact fun g' P' σ' H' s' i' r => h g' P' σ' H' (s.trans s') (i.trans i') r
  | rt d => exact fun g' P' Pv σ' v H' s' i' rv r n => h g' P' Pv σ' v H' (s.trans s') (i.trans i') rv r n
def evSkip (m : M) : Option (Fl × M) := some (.nx, m)
def evSq (f g : Es) (m : M) : Option (Fl × M) := do
  let (fl, m1) ← f m
  match fl with
  | .nx => g m1
  | _ => some (fl, m1)
def evRet (f : Ev Dt) (m : M) : Option (Fl × M) := do
  let (d, m') ← f m
  some (.rt d, m')
def evRetN (m : M) : Option (Fl × M) := some (.rt .non, m)
def evDrop (f : Ev Dt) (m : M) : Option (Fl × M) := do
  let (_, m') ← f m
  some (.nx, m')
def evCont (m : M) : Option (Fl × M) := some (.ct, m)
section
variable {X : Cx} {io : List Nat} {s : Stmt} {ss rest : List Stmt} {e c : Expr} {pos : Pos} {f f' : Es} {fe : Ev Dt} {t : Ev Bool}
theorem qss_nil : QSs X io [] evSkip := ⟨PSs.imp pss_nil fun D σ H h => by
  obtain ⟨g, m, P, r, fl, m', e, k⟩ := h
  simp only [evSkip, Option.some.injEq, Prod.mk.injEq] at e
  obtain ⟨rfl, rfl⟩ := e
  exact k g P σ H Step.refl Io.refl r⟩
theorem qss_one (h : QS X io s f) : QSs X io [s] f := ⟨pss_one h.h⟩
theorem qss_cons (h1 : QS X io s f) (h2 : QSs X io rest f') : QSs X io (s :: rest) (evSq f f') := ⟨PSs.imp (pss_cons h1.h h2.h) fun D σ H h => by
  obtain ⟨g, m, P, r, fl, m', e, k⟩ := h
  simp only [evSq, Option.bind_eq_bind, Option.bind_eq_some_iff, Prod.exists] at e
  obtain ⟨fl1, m1, e1, e⟩ := e
  refine ⟨g, m, P, r, fl1, m1, e1, ?_⟩
  cases fl1 with
  | nx => exact fun g' P' σ' H' s' i' r' => ⟨g', m1, P', r', fl, m', e, k.later s' i'⟩
  | ct => simp only [Option.some.injEq, Prod.mk.injEq] at e; obtain ⟨rfl, rfl⟩ := e; exact k
  | bk => simp only [Option.some.injEq, Prod.mk.injEq] at e; obtain ⟨rfl, rfl⟩ := e; exact k
  | rt d => simp only [Option.some.injEq, Prod.mk.injEq] at e; obtain ⟨rfl, rfl⟩ := e; exact k⟩
theorem qs_ret (hq : QE X e fe) : QS X io (.Return (some e) pos) (evRet fe) := ⟨PS.imp (ps_ret hq.h) fun D σ H h => by
  obtain ⟨g, m, P, r, fl, m', e, k⟩ := h
  simp only [evRet, Option.bind_eq_bind, Option.bind_eq_some_iff, Prod.exists, Option.some.injEq, Prod.mk.injEq] at e
  obtain ⟨d, m1, e1, rfl, rfl⟩ := e
  exact ⟨g, m, P, r, d, m1, e1, fun g' P' Pv v H' s rv r1 n => k g' P' Pv σ v H' s Io.refl rv r1 n⟩⟩
theorem qs_expr (hq : QE X e fe) (hs : swapsWith e none pos.line X.env = pure false := by rfl) : QS X io (.Expr e pos) (evDrop fe) := ⟨PS.imp (ps_expr hq.h hs) fun D σ H h => by
  obtain ⟨g, m, P, r, fl, m', e, k⟩ := h
  simp only [evDrop, Option.bind_eq_bind, Option.bind_eq_some_iff, Prod.exists, Option.some.injEq, Prod.mk.injEq] at e
  obtain ⟨d, m1, e1, rfl, rfl⟩ := e
  exact ⟨g, m, P, r, d, m1, e1, fun g' P' Pv v H' s rv r1 n => k g' P' σ H' (s.sub (fun _ q => q) fun _ q => .inl q) Io.refl r1⟩⟩
theorem qs_if {a b : List Stmt} (hc : QT X c t) (ha : QSs X io a f) (hb : QSs X io b f') : QS X io (.If c a b pos) (evIf t f f') := ⟨PS.imp (ps_if hc.h ha.h hb.h) fun D σ H h => by
  obtain ⟨g, m, P, r, fl, m', e, k⟩ := h
  simp only [evIf, Option.bind_eq_bind, Option.bind_eq_some_iff, Prod.exists] at e
  obtain ⟨b1, m1, e1, e⟩ := e
  refine ⟨g, m, P, r, b1, m1, e1, fun g' P' H' s r1 => ?_⟩
  cases b1 with
  | true => rw [if_pos rfl] at e ⊢; exact ⟨g', m1, P', r1, fl, m', e, k.later s Io.refl⟩
  | false => rw [if_neg (by decide)] at e ⊢; exact ⟨g', m1, P', r1, fl, m', e, k.later s Io.refl⟩⟩
end
abbrev Tg := Dt → M → Option M
def Ag (js : List Nat) (σ σ' : St) : Prop := σ'.length = σ.length ∧ ∀ i, i ∉ js → σ'[i]? = σ[i]?
theorem Ag.io {js io : List Nat} {σ σ' : St} (h : Ag js σ σ') (d : ∀ i ∈ io, i ∉ js) : Io io σ σ' := fun i hi => h.2 i (d i hi)
def TgR (K : PySem.W.Frag) (js : List Nat) (tg : TG) (f : Tg) : Prop := ∀ g m m' P d Pv v σ H Q, Rel K g H m σ P → Rep K g H d v Pv → Disj P Pv → f d m = some m' →
  (∀ P' σ', (∀ a, P' a → P a ∨ Pv a) → Ag js σ σ' → Rel K g H m' σ' P' → Q σ' H) → tg v σ H Q
def TgsR (K : PySem.W.Frag) (js : List Nat) (tg : TGs) (f : List Dt → M → Option M) : Prop := ∀ g m m' P ds Pv vs σ H Q, Rel K g H m σ P → Reps K g H ds vs Pv → Disj P Pv → f ds m = some m' →
  (∀ P' σ', (∀ a, P' a → P a ∨ Pv a) → Ag js σ σ' → Rel K g H m' σ' P' → Q σ' H) → tg vs σ H Q
def tgN (i : Nat) (d : Dt) (m : M) : Option M := if i < m.ρ.length then some (m.set i (some d)) else none
def tgsNil (ds : List Dt) (m : M) : Option M := match ds with | [] => some m | _ => none
def tgsCons (f : Tg) (r : List Dt → M → Option M) (ds : List Dt) (m : M) : Option M := match ds with | d :: ds => do { let m1 ← f d m; r ds m1 } | _ => none
def tgT (f : List Dt → M → Option M) (d : Dt) (m : M) : Option M := match d with | .tup ds => f ds m | _ => none
def tgL (f : List Dt → M → Option M) (d : Dt) (m : M) : Option M := match d with | .lst _ ds => f ds m | _ => none
section
variable {K : PySem.W.Frag} {io : List Nat}
theorem tg_name {i : Nat} : TgR K [i] (gName i) (tgN i) := by
  intro g m m' P d Pv v σ H Q r rv n e k
  unfold tgN at e
  split at e
  · rename_i hi
    simp only [Option.some.injEq] at e
    subst e
    obtain ⟨P2, r2, s⟩ := r.setNew hi rv fun a q z => n a z q
    exact k P2 _ s ⟨List.length_set .., fun j hj => List.getElem?_set_ne fun (z : i = j) => hj (by rw [z]; exact List.mem_singleton_self _)⟩ r2
  · cases e
theorem tgs_nil : TgsR K [] gNil tgsNil := by
  intro g m m' P ds Pv vs σ H Q r rv n e k
  cases ds with
  | nil =>
    simp only [tgsNil, Option.some.injEq] at e
    subst e
    unfold Reps at rv
    exact ⟨rv.1, k P σ (fun _ q => .inl q) ⟨rfl, fun _ _ => rfl⟩ r⟩
  | cons d ds => cases e
theorem tgs_cons {js ks : List Nat} {tg : TG} {tgs : TGs} {f : Tg} {fr : List Dt → M → Option M} (h1 : TgR K js tg f) (h2 : TgsR K ks tgs fr) : TgsR K (js ++ ks) (gCons tg tgs) (tgsCons f fr) := by
  intro g m m' P ds Pv vs σ H Q r rv n e k
  cases ds with
  | nil => cases e
  | cons d ds =>
    simp only [tgsCons, Option.bind_eq_bind, Option.bind_eq_some_iff] at e
    obtain ⟨m1, e1, e2⟩ := e
    unfold Reps at rv
    obtain ⟨v, vr, P1, P2, rfl, k1, k2, k3, k4⟩ := rv
    refine ⟨v, vr, rfl, h1 g m m1 P d P1 v σ H _ r k1 (fun a q z => n a q ((k4 a).mpr (.inl z))) e1 fun P' σ' s i r' => ?_⟩
    refine h2 g m1 m' P' ds P2 vr σ' H Q r' k2 (fun a q z => (s a q).elim (fun q => n a q ((k4 a).mpr (.inr z))) fun q => k3 a q z) e2 fun P'' σ'' s' i' r'' => ?_
    exact k P'' σ'' (fun a q => (s' a q).elim (fun q => (s a q).elim .inl fun q => .inr ((k4 a).mpr (.inl q))) fun q => .inr ((k4 a).mpr (.inr q))) ⟨i'.1.trans i.1, fun j hj => (i'.2 j fun z => hj (List.mem_append_right _ z)).trans (i.2 j fun z => hj (List.mem_append_left _ z))⟩ r''
theorem tg_tup {js : List Nat} {n : Nat} {tgs : TGs} {f : List Dt → M → Option M} (h : TgsR K js tgs f) (hn : ∀ ds m m', f ds m = some m' → ds.length = n) : TgR K js (gTup K n tgs) (tgT f) := by
  intro g m m' P d Pv v σ H Q r rv nn e k
  cases d <;> simp only [tgT, reduceCtorEq] at e
  rename_i ds
  obtain ⟨a, vs, rfl, h1, h2⟩ := rv.tup
  exact ⟨a, vs, rfl, h1, by rw [← h2.len]; exact hn _ _ _ e, h g m m' P ds Pv vs σ H Q r h2 nn e k⟩
theorem len_nil : ∀ (ds : List Dt) (m m' : M), tgsNil ds m = some m' → ds.length = 0
  | [], _, _, _ => rfl
  | _ :: _, _, _, h => by cases h
theorem len_cons {f : Tg} {r : List Dt → M → Option M} {n : Nat} (h : ∀ ds m m', r ds m = some m' → ds.length = n) : ∀ (ds : List Dt) (m m' : M), tgsCons f r ds m = some m' → ds.length = n + 1
  | [], _, _, e => by cases e
  | d :: ds, m, m', e => by
    simp only [tgsCons, Option.bind_eq_bind, Option.bind_eq_some_iff] at e
    obtain ⟨m1, e1, e2⟩ := e
    rw [List.length_cons, h ds m1 m' e2]
end
def evAsg (f : Ev Dt) (tg : Tg) (m : M) : Option (Fl × M) := do
  let (d, m1) ← f m
  let m2 ← tg d m1
  some (.nx, m2)
theorem asg_run {K : PySem.W.Frag} {io js : List Nat} {tg : TG} {f : Ev Dt} {ft : Tg} (ht : TgR K js tg ft) (hio : ∀ i ∈ io, i ∉ js) {D : Ends} {σ : St} {H : Hp} (h : tqS K io (evAsg f ft) D σ H) : tAsg (tq K f) tg D σ H := by
  obtain ⟨g, m, P, r, fl, m', e, k⟩ := h
  simp only [evAsg, Option.bind_eq_bind, Option.bind_eq_some_iff, Prod.exists, Option.some.injEq, Prod.mk.injEq] at e
  obtain ⟨d, m1, e1, m2, e2, rfl, rfl⟩ := e
  refine ⟨g, m, P, r, d, m1, e1, fun g' P' Pv v H' s rv r1 n => ht g' m1 m2 P' d Pv v σ H' _ r1 rv n e2 fun P2 σ2 s2 i r2 => ?_⟩
  exact k g' P2 σ2 H' (s.sub (fun _ q => q) fun a q => s2 a q) (i.io hio) r2
section
variable {X : Cx} {io : List Nat} {e tg : Expr} {pos pos' : Pos} {fe : Ev Dt} {g : TG} {ft : Tg} {i : Nat} {x : Str}
theorem qs_set (hN : X.N.Nodup) (hi : X.N[i]? = some x) (hx : Loc X.env.scope x) (hio : i ∉ io) (he : QE X e fe) (hs : swapsWith e (some (.Name x pos')) pos.line X.env = pure false := by rfl) (hf : X.fn x = true ∨ X.env.scope.names.lookup x = some .local := by first | exact .inl rfl | exact .inr rfl | assumption) : QS X io (.Assign [.Name x pos'] e pos) (evAsg fe (tgN i)) := ⟨PS.imp (ps_set hN hi hx he.h hs hf) fun _ _ _ h => asg_run tg_name (fun j hj z => hio (by rw [← List.mem_singleton.mp z]; exact hj)) h⟩
def evPar (i j : Nat) (os : List Om) (m : M) : Option (Fl × M) := do
  let (ds, m1) ← evOms os m
  match ds with
  | [a, b] => if i < m1.ρ.length && j < m1.ρ.length then some (.nx, (m1.set i (some a)).set j (some b)) else none
  | _ => none
theorem qs_par {j : Nat} {y : Str} {a b : Expr} {px py pt : Pos} {kt k2 pt2} {os : List Om} (hc : X.calm = true) (hN : X.N.Nodup) (hi : X.N[i]? = some x) (hj : X.N[j]? = some y) (hij : i ≠ j)
    (hx : X.env.scope.names.lookup x = some .local) (hy : X.env.scope.names.lookup y = some .local) (ha : QA X [a, b] os)
    (hw : swappedStores [.Tuple [.Name x px, .Name y py] kt pt] (.Tuple [a, b] k2 pt2) X.env = pure (some [x, y])) (hio : i ∉ io) (hjo : j ∉ io) (hev : evd os = true := by rfl)
    (hs : swapsWithSole [.Tuple [.Name x px, .Name y py] kt pt] (.Tuple [a, b] k2 pt2) pos.line X.env = pure false := by rfl) : QS X io (.Assign [.Tuple [.Name x px, .Name y py] kt pt] (.Tuple [a, b] k2 pt2) pos) (evPar i j os) := ⟨PS.imp (ps_par hc hN hi hj hij hx hy ha.h hw hs) fun D σ H h => by
  obtain ⟨g, m, P, r, fl, m', e, k⟩ := h
  simp only [evPar, Option.bind_eq_bind, Option.bind_eq_some_iff, Prod.exists] at e
  obtain ⟨ds, m1, e1, e⟩ := e
  split at e
  · rename_i d1 d2
    split at e
    · rename_i hl
      simp only [Bool.and_eq_true, decide_eq_true_eq] at hl
      simp only [Option.some.injEq, Prod.mk.injEq] at e
      obtain ⟨rfl, rfl⟩ := e
      refine oms_run os r e1 fun g' P' Pv vs H' s rs r1 n => ?_
      have rp := RepAs.reps hev rs
      unfold Reps at rp
      obtain ⟨v, vr, P1, P2, rfl, k1, k2, k3, k4⟩ := rp
      unfold Reps at k2
      obtain ⟨w, wr, P3, P4, rfl, l1, l2, l3, l4⟩ := k2
      unfold Reps at l2
      obtain ⟨rfl, l2⟩ := l2
      refine ⟨v, w, rfl, ?_⟩
      obtain ⟨Pa, ra, sa⟩ := r1.setNew hl.1 k1 fun a q z => n a z ((k4 a).mpr (.inl q))
      obtain ⟨Pb, rb, sb⟩ := ra.setNew (i := j) (by show j < (m1.ρ.set i _).length; rw [List.length_set]; exact hl.2) l1 fun a q z => (sa a z).elim (fun z => n a z ((k4 a).mpr (.inr ((l4 a).mpr (.inl q))))) fun z => k3 a z ((l4 a).mpr (.inl q))
      refine k g' Pb _ H' (s.sub (fun _ q => q) fun a q => ?_) (fun l hl => ?_) rb
      · rcases sb a q with z | z
        · rcases sa a z with z | z
          · exact .inl z
          · exact .inr ((k4 a).mpr (.inl z))
        · exact .inr ((k4 a).mpr (.inr ((l4 a).mpr (.inl z))))
      · rw [List.getElem?_set_ne fun (z : j = l) => hjo (z ▸ hl), List.getElem?_set_ne fun (z : i = l) => hio (z ▸ hl)]
    · cases e
  · cases e⟩
end
def whl (c : Ev Bool) (b : Es) : Nat → M → Option (Fl × M)
  | 0, _ => none
  | n + 1, m => do
    let (t, m1) ← c m
    if t then do
      let (fl, m2) ← b m1
      match fl with
      | .nx => whl c b n m2
      | .ct => whl c b n m2
      | .bk => some (.nx, m2)
      | .rt d => some (.rt d, m2)
    else some (.nx, m1)
theorem qs_while {X : Cx} {io : List Nat} {c : Expr} {body : List Stmt} {pos : Pos} {t : Ev Bool} {f : Es} (n : Nat) (hp : PassesOwn (model X.prog X.w) X.A X.env X.xe) (hc : QT X c t) (hb : QSs X io body f) : QS X io (.While c body [] pos) (whl t f n) := ⟨PS.imp (ps_while hp hc.h hb.h) fun D σ H h => by
  obtain ⟨g, m, P, r, fl, m', e, k⟩ := h
  refine ⟨fun j σ1 H1 => ∃ g1 m1 P1, Rel X.K g1 H1 m1 σ1 P1 ∧ whl t f j m1 = some (fl, m') ∧ AfterS X.K io g1 P1 H1 σ1 D m' fl, ⟨n, g, m, P, r, e, k⟩, ?_⟩
  rintro j σ1 H1 ⟨g1, m1, P1, r1, e1, k1⟩
  cases j with
  | zero => cases e1
  | succ j =>
    simp only [whl, Option.bind_eq_bind, Option.bind_eq_some_iff, Prod.exists] at e1
    obtain ⟨b1, m2, e2, e1⟩ := e1
    refine ⟨g1, m1, P1, r1, b1, m2, e2, fun g2 P2 H2 s2 r2 => ?_⟩
    cases b1 with
    | false =>
      rw [if_neg (by decide)] at e1
      rw [if_neg (by decide)]
      simp only [Option.some.injEq, Prod.mk.injEq] at e1
      obtain ⟨rfl, rfl⟩ := e1
      exact k1 g2 P2 σ1 H2 s2 Io.refl r2
    | true =>
      rw [if_pos rfl] at e1 ⊢
      simp only [Option.bind_eq_some_iff, Prod.exists] at e1
      obtain ⟨fl2, m3, e3, e1⟩ := e1
      refine ⟨fun σ' H' => ∃ g3 P3, Step g2 P2 H2 g3 P3 H' ∧ Io io σ1 σ' ∧ Rel X.K g3 H' m3 σ' P3 ∧ (fl2 = .nx ∨ fl2 = .ct), ?_, ⟨g2, m2, P2, r2, fl2, m3, e3, ?_⟩⟩
      · rintro σ' H' ⟨g3, P3, s3, i3, r3, hf⟩
        refine ⟨j, Nat.lt_succ_self j, g3, m3, P3, r3, ?_, (k1.later s2 Io.refl).later s3 i3⟩
        rcases hf with rfl | rfl <;> exact e1
      · cases fl2 with
        | nx => exact fun g3 P3 σ3 H3 s3 i3 r3 => ⟨g3, P3, s3, i3, r3, .inl rfl⟩
        | ct => exact fun g3 P3 σ3 H3 s3 i3 r3 => ⟨g3, P3, s3, i3, r3, .inr rfl⟩
        | bk =>
          simp only [Option.some.injEq, Prod.mk.injEq] at e1
          obtain ⟨rfl, rfl⟩ := e1
          exact fun g3 P3 σ3 H3 s3 i3 r3 => k1 g3 P3 σ3 H3 (s2.trans s3) i3 r3
        | rt d =>
          simp only [Option.some.injEq, Prod.mk.injEq] at e1
          obtain ⟨rfl, rfl⟩ := e1
          exact fun g3 P3 Pv σ3 v H3 s3 i3 rv r3 n3 => k1 g3 P3 Pv σ3 v H3 (s2.trans s3) i3 rv r3 n3⟩
end Q
namespace Q
open PySem L2
def Stay (g : G) (H : Hp) (Ph : Fp) (g2 : G) (H2 : Hp) : Prop := ∃ P P', Step g P H g2 P' H2 ∧ FpOk g H P ∧ Disj Ph P
def Yl (K : PySem.W.Frag) (J : It) (ds : List Dt) (Ph : Fp) (g : G) (H : Hp) : Prop := ∀ g2 H2, Stay g H Ph g2 H2 →
  (∀ i d, ds[i]? = some d → J.go i H2 ∧ ∀ x H3, J.yld i H2 x H3 → New K g2 H2 d x H3) ∧ ∀ i, ds.length ≤ i → J.stop i H2
def tqI (K : PySem.W.Frag) (src : Ev (List Dt)) : TI := fun σ H R => ∃ g m P, Rel K g H m σ P ∧ ∃ ds m', src m = some (ds, m') ∧
  ∀ g' P' Ph H' J, Step g P H g' (fun a => P' a ∨ Ph a) H' → Rel K g' H' m' σ P' → Disj P' Ph → Yl K J ds Ph g' H' → R J H'
structure QI (X : Cx) (tg iter : Expr) (src : Ev (List Dt)) : Prop where
  h : PI X tg iter (tqI X.K src)
theorem PI.imp {X : Cx} {tg e : Expr} {t t' : TI} (h : PI X tg e t) (k : ∀ σ H R, t' σ H R → t σ H R) : PI X tg e t' := fun pins s σ H R I q => h pins s σ H R I (k σ H R q)
def forL (tg : Tg) (b : Es) : List Dt → M → Option (Fl × M)
  | [], m => some (.nx, m)
  | d :: ds, m => do
    let m1 ← tg d m
    let (fl, m2) ← b m1
    match fl with
    | .nx => forL tg b ds m2
    | .ct => forL tg b ds m2
    | .bk => some (.nx, m2)
    | .rt d => some (.rt d, m2)
def evFor (src : Ev (List Dt)) (tg : Tg) (b : Es) (m : M) : Option (Fl × M) := do
  let (ds, m1) ← src m
  forL tg b ds m1
theorem for_run {K : PySem.W.Frag} {io js : List Nat} {g : TG} {ft : Tg} {f : Es} (ht : TgR K js g ft) (hio : ∀ i ∈ io, i ∉ js) {ds : List Dt} {m1 m' : M} {fl : Fl} {D : Ends} {σ : St} {H1 : Hp} {g1 : G} {P1 Ph : Fp} {J : It}
    (r1 : Rel K g1 H1 m1 σ P1) (n : Disj P1 Ph) (yl : Yl K J ds Ph g1 H1) (e : forL ft f ds m1 = some (fl, m')) (k : AfterS K io g1 P1 H1 σ D m' fl) :
    ∃ W : Nat → Nat → St → Hp → Prop, (∃ m, W 0 m σ H1) ∧ ∀ i m σ H, W i m σ H →
      (J.stop i H ∧ D.nx σ H) ∨ (J.go i H ∧ ∃ N : St → Hp → Prop, (∀ σ' H', N σ' H' → ∃ m', m' < m ∧ W (i + 1) m' σ' H') ∧ ∀ x H', J.yld i H x H' → g x σ H' fun σ2 H2 => tqS K io f { D with nx := N, ct := N, bk := D.nx } σ2 H2) := by
  refine ⟨fun i j σ' H' => j = ds.length - i ∧ i ≤ ds.length ∧ ∃ g2 m2 P2, Step g1 P1 H1 g2 P2 H' ∧ Io io σ σ' ∧ Rel K g2 H' m2 σ' P2 ∧ forL ft f (ds.drop i) m2 = some (fl, m'), ⟨ds.length, by simp, Nat.zero_le _, g1, m1, P1, Step.refl, Io.refl, r1, by simpa using e⟩, ?_⟩
  rintro i j σ2 H2 ⟨rfl, hi, g2, m2, P2, s2, i2, r2, e2⟩
  have st : Stay g1 H1 Ph g2 H2 := ⟨P1, P2, s2, r1.fpOk, fun a q z => n a z q⟩
  by_cases hlt : i < ds.length
  · rw [List.drop_eq_getElem_cons hlt] at e2
    simp only [forL, Option.bind_eq_bind, Option.bind_eq_some_iff, Prod.exists] at e2
    obtain ⟨m3, e3, fl2, m4, e4, e2⟩ := e2
    obtain ⟨go, yy⟩ := (yl g2 H2 st).1 i ds[i] (List.getElem?_eq_getElem hlt)
    refine .inr ⟨go, fun σ' H' => ∃ g5 P5, Step g1 P1 H1 g5 P5 H' ∧ Io io σ σ' ∧ Rel K g5 H' m4 σ' P5 ∧ (fl2 = .nx ∨ fl2 = .ct), ?_, fun x H3 hy => ?_⟩
    · rintro σ' H' ⟨g5, P5, s5, i5, r5, hf⟩
      refine ⟨ds.length - (i + 1), by omega, rfl, hlt, g5, m4, P5, s5, i5, r5, ?_⟩
      rcases hf with rfl | rfl <;> exact e2
    · obtain ⟨Pv, s3, h3, r3, n3⟩ := New.go (Px := nop) (Step.sub s2 (fun _ q => q) fun _ q => q.elim id False.elim) r2 (yy x H3 hy)
      refine ht g2 m2 m3 P2 ds[i] Pv x σ2 H3 _ r3 h3 n3 e3 fun P' σ' sp ip r' => ?_
      have s4 : Step g1 P1 H1 g2 P' H3 := s3.sub (fun _ q => q) sp
      refine ⟨g2, m3, P', r', fl2, m4, e4, ?_⟩
      cases fl2 with
      | nx => exact fun g5 P5 σ5 H5 s5 i5 r5 => ⟨g5, P5, s4.trans s5, (i2.trans (ip.io hio)).trans i5, r5, .inl rfl⟩
      | ct => exact fun g5 P5 σ5 H5 s5 i5 r5 => ⟨g5, P5, s4.trans s5, (i2.trans (ip.io hio)).trans i5, r5, .inr rfl⟩
      | bk =>
        simp only [Option.some.injEq, Prod.mk.injEq] at e2
        obtain ⟨rfl, rfl⟩ := e2
        exact fun g5 P5 σ5 H5 s5 i5 r5 => k g5 P5 σ5 H5 (s4.trans s5) ((i2.trans (ip.io hio)).trans i5) r5
      | rt d =>
        simp only [Option.some.injEq, Prod.mk.injEq] at e2
        obtain ⟨rfl, rfl⟩ := e2
        exact fun g5 P5 Pv5 σ5 v H5 s5 i5 rv r5 n5 => k g5 P5 Pv5 σ5 v H5 (s4.trans s5) ((i2.trans (ip.io hio)).trans i5) rv r5 n5
  · have ei : i = ds.length := by omega
    subst ei
    rw [List.drop_length] at e2
    simp only [forL, Option.some.injEq, Prod.mk.injEq] at e2
    obtain ⟨rfl, rfl⟩ := e2
    exact .inl ⟨(yl g2 H2 st).2 _ (Nat.le_refl _), k g2 P2 σ2 H2 s2 i2 r2⟩
theorem qs_for {X : Cx} {io js : List Nat} {tg iter : Expr} {body : List Stmt} {src : Ev (List Dt)} {g : TG} {ft : Tg} {f : Es} {pos : Pos} (hp : PassesOwn (model X.prog X.w) X.A X.env X.xe) (hc : X.calm = true) (hi : QI X tg iter src) (hg : PG X tg g) (ht : TgR X.K js g ft) (hio : ∀ i ∈ io, i ∉ js) (hb : QSs X io body f)
    (hs : ∀ x, foldedSetIterable iter X.env x = pure x := by intro _; rfl) : QS X io (.For tg iter body [] pos) (evFor src ft f) := ⟨PS.imp (ps_for hp hc hi.h hg hb.h hs) fun D σ H h => by
  obtain ⟨g0, m, P, r, fl, m', e, k⟩ := h
  simp only [evFor, Option.bind_eq_bind, Option.bind_eq_some_iff, Prod.exists] at e
  obtain ⟨ds, m1, e1, e⟩ := e
  refine ⟨g0, m, P, r, ds, m1, e1, fun g1 P1 Ph H1 J s r1 n yl => ?_⟩
  exact for_run ht hio r1 n yl e (k.later (s.sub (fun _ q => q) fun _ q => .inl q) Io.refl)⟩
def items : Dt → Option (List Dt)
  | .tup ds => bif cps ds then some ds else none
  | .lst _ ds => bif cps ds then some ds else none
  | .scr ns => some (ns.map .int)
  | _ => none
def evItems (f : Ev Dt) (m : M) : Option (List Dt × M) := do
  let (d, m') ← f m
  let ds ← items d
  some (ds, m')
theorem cps_get {ds : List Dt} (h : cps ds = true) : ∀ {i : Nat} {d : Dt}, ds[i]? = some d → d.cp = true := by
  induction ds with
  | nil => intro i d e; simp at e
  | cons x xs ih =>
    unfold cps at h
    rw [Bool.and_eq_true] at h
    intro i d e
    cases i with
    | zero => simp at e; subst e; exact h.1
    | succ i => exact ih h.2 (i := i) (by simpa using e)
section
variable {K : PySem.W.Frag} {g g2 : G} {H H2 : Hp}
theorem Stay.rep {Ph : Fp} {d : Dt} {v : V} (s : Stay g H Ph g2 H2) (h : Rep K g H d v Ph) : Rep K g2 H2 d v Ph := by
  obtain ⟨P, P', st, ok, n⟩ := s
  exact h.held st ok n
theorem New.old {d : Dt} {v : V} (h : Rep K g H d v nop) : New K g H d v H := ⟨fun _ _ q => q, nop, h, fun _ z => z.elim⟩
theorem yl_list {a : Addr} {o : Bool} {ds : List Dt} {Ph : Fp} (h : Rep K g H (.lst o ds) (.ref a) Ph) (c : cps ds = true) : Yl K (Itl K a) ds Ph g H := by
  intro g2 H2 st
  obtain ⟨b, vs, P', e, h1, h2⟩ := (st.rep h).lst
  cases e
  have sq : SqL K H2 a vs := .inl (.inl h1)
  refine ⟨fun i d e => ?_, fun i hi => ⟨vs, sq, by rw [← h2.len]; exact hi⟩⟩
  obtain ⟨v, P, ev, rv, _⟩ := h2.get e
  refine ⟨⟨vs, v, sq, ev⟩, fun x H3 y => ?_⟩
  obtain ⟨rfl, y⟩ := y
  have := y vs sq
  rw [ev] at this
  cases this
  exact New.old (rv.cp (cps_get c e))
theorem yl_tup {a : Addr} {ds : List Dt} {Ph : Fp} (h : Rep K g H (.tup ds) (.ref a) Ph) (c : cps ds = true) : Yl K (Itt K a) ds Ph g H := by
  intro g2 H2 st
  obtain ⟨b, vs, e, h1, h2⟩ := (st.rep h).tup
  cases e
  refine ⟨fun i d e => ?_, fun i hi => ⟨vs, h1, by rw [← h2.len]; exact hi⟩⟩
  obtain ⟨v, P, ev, rv, _⟩ := h2.get e
  refine ⟨⟨vs, v, h1, ev⟩, fun x H3 y => ?_⟩
  obtain ⟨rfl, y⟩ := y
  have := y vs h1
  rw [ev] at this
  cases this
  exact New.old (rv.cp (cps_get c e))
theorem yl_scr {a : Addr} {ns : List Int} {Ph : Fp} (h : Rep K g H (.scr ns) (.ref a) Ph) : Yl K (Itl K a) (ns.map .int) Ph g H := by
  intro g2 H2 st
  obtain ⟨b, e, sq⟩ := (st.rep h).scr
  cases e
  refine ⟨fun i d e => ?_, fun i hi => ⟨_, sq, by rw [List.length_map] at hi ⊢; exact hi⟩⟩
  rw [List.getElem?_map] at e
  cases q : ns[i]? with
  | none => rw [q] at e; cases e
  | some k =>
    rw [q] at e
    cases e
    refine ⟨⟨_, .int k, sq, by rw [List.getElem?_map, q]; rfl⟩, fun x H3 y => ?_⟩
    obtain ⟨rfl, y⟩ := y
    have := y _ sq
    rw [List.getElem?_map, q] at this
    cases this
    exact New.old (by unfold Rep; exact ⟨rfl, fun _ z => z⟩)
theorem yl_range {lo : Int} {n : Nat} {Ph : Fp} : Yl K (Itr lo n) ((List.range n).map fun k => .int (lo + (k : Nat))) Ph g H := by
  intro g2 H2 st
  refine ⟨fun i d e => ?_, fun i hi => by rw [List.length_map, List.length_range] at hi; exact hi⟩
  rw [List.getElem?_map] at e
  cases q : (List.range n)[i]? with
  | none => rw [q] at e; cases e
  | some k =>
    rw [q] at e
    cases e
    have hi : i < n := by have := (List.getElem?_eq_some_iff.mp q).1; simpa using this
    have : k = i := by rw [List.getElem?_range hi] at q; exact (Option.some.inj q).symm
    subst this
    refine ⟨hi, fun x H3 y => ?_⟩
    obtain ⟨rfl, rfl⟩ := y
    exact New.old (by unfold Rep; exact ⟨rfl, fun _ z => z⟩)
end
section
variable {X : Cx} {tg e a b : Expr} {f : Ev Dt} {oa ob : Om} {p pos : Pos}
theorem qi_seq (h : QE X e f) : QI X tg e (evItems f) := ⟨PI.imp (pi_any h.h) fun σ H R q => by
  obtain ⟨g, m, P, r, ds, m', e, k⟩ := q
  simp only [evItems, Option.bind_eq_bind, Option.bind_eq_some_iff, Prod.exists, Option.some.injEq, Prod.mk.injEq] at e
  obtain ⟨d, m1, e1, ds', e2, rfl, rfl⟩ := e
  refine ⟨g, m, P, r, d, m1, e1, fun g' P' Pv v H' s rv r1 n => ?_⟩
  cases d with
  | tup es =>
    simp only [items] at e2
    cases c : cps es with
    | false => rw [c] at e2; cases e2
    | true =>
      rw [c] at e2
      cases e2
      obtain ⟨a, vs, rfl, h1, h2⟩ := rv.tup
      exact ⟨a, vs, rfl, .inr ⟨h1, k g' P' Pv H' _ s r1 n (yl_tup rv c)⟩⟩
  | lst o es =>
    simp only [items] at e2
    cases c : cps es with
    | false => rw [c] at e2; cases e2
    | true =>
      rw [c] at e2
      cases e2
      obtain ⟨a, vs, P1, rfl, h1, h2⟩ := rv.lst
      exact ⟨a, vs, rfl, .inl ⟨.inl (.inl h1), k g' P' Pv H' _ s r1 n (yl_list rv c)⟩⟩
  | scr ns =>
    simp only [items, Option.some.injEq] at e2
    subst e2
    obtain ⟨a, rfl, h1⟩ := rv.scr
    exact ⟨a, _, rfl, .inl ⟨h1, k g' P' Pv H' _ s r1 n (yl_scr rv)⟩⟩
  | _ => cases e2⟩
def small (i : Int) : Bool := -1000000000 ≤ i && i ≤ 1000000000
def evRng1 (o : Om) (m : M) : Option (List Dt × M) := do
  let (ds, m') ← evOms [o] m
  match ds with
  | [.int n] => bif small n then some ((List.range n.toNat).map fun k => .int (0 + (k : Nat)), m') else none
  | _ => none
def evRng2 (o o' : Om) (m : M) : Option (List Dt × M) := do
  let (ds, m') ← evOms [o, o'] m
  match ds with
  | [.int i, .int n] => bif small i && small n then some ((List.range (n - i).toNat).map fun k => .int (i + (k : Nat)), m') else none
  | _ => none
theorem small_of {i : Int} (h : small i = true) : -1000000000 ≤ i ∧ i ≤ 1000000000 := by
  unfold small at h
  rw [Bool.and_eq_true, decide_eq_true_eq, decide_eq_true_eq] at h
  exact h
theorem qi_rng1 (hg : Gl X "range") (hm : X.mg "range" = none) (ha : QO X a oa) (hs : starEach [a] X.env = [(false, eval a X.env)] := by rfl) : QI X tg (.Call (.Name "range" p) [a] [] pos) (evRng1 oa) := ⟨PI.imp (pi_range1 hg hm (qa_cons ha qa_nil hs).h hs) fun σ H R q => by
  obtain ⟨g, m, P, r, ds, m', e, k⟩ := q
  simp only [evRng1, Option.bind_eq_bind, Option.bind_eq_some_iff, Prod.exists] at e
  obtain ⟨es, m1, e1, e⟩ := e
  split at e
  · rename_i n
    cases c : small n with
    | false => rw [c] at e; cases e
    | true =>
      rw [c, cond_true] at e
      simp only [Option.some.injEq, Prod.mk.injEq] at e
      obtain ⟨rfl, rfl⟩ := e
      have hn := small_of c
      refine oms_run [oa] r e1 fun g' P' Pv vs H' s rs r1 nn => ?_
      have ra := RepAs.ra r1 rs
      unfold RA at ra
      obtain ⟨v, vr, Pr, rfl, h1, h2⟩ := ra
      unfold RA at h2
      subst h2
      rw [rep_int h1]
      exact ⟨n, rfl, by omega, by omega, k g' P' nop H' _ (s.sub (fun _ q => q) fun _ q => q.elim .inl False.elim) r1 (fun _ _ z => z) yl_range⟩
  · cases e⟩
end
def blankR (js : List Nat) (ρ : List (Option Dt)) : List (Option Dt) := js.foldl (fun ρ j => ρ.set j none) ρ
def M.blank (js : List Nat) (m : M) : M := { m with ρ := blankR js m.ρ }
def rst (js : List Nat) (ρ0 : List (Option Dt)) (ρ : List (Option Dt)) : List (Option Dt) := js.foldl (fun ρ j => match ρ0[j]? with | some (some d) => bif d.cp then ρ.set j (some d) else ρ | _ => ρ) (blankR js ρ)
def compL (js : List Nat) (tg : Tg) (f : Ev Dt) : List Dt → M → Option (List Dt × M)
  | [], m => some ([], m)
  | d :: ds, m => do
    let m1 ← tg d (m.blank js)
    let (x, m2) ← f m1
    let (xs, m3) ← compL js tg f ds m2
    some (x :: xs, m3)
def evComp (src : Ev (List Dt)) (js : List Nat) (tg : Tg) (f : Ev Dt) (m : M) : Option (Dt × M) := do
  let (ds, m1) ← src m
  if ds.length ≤ 1000000 then do
    let (xs, m2) ← compL js tg f ds m1
    some (.lst true xs, { m2 with ρ := rst js m1.ρ m2.ρ })
  else none
section
variable {K : PySem.W.Frag} {g : G} {H : Hp}
theorem REnv.agree : ∀ {ρ : List (Option Dt)} {σ σ' : St} {P : Fp}, REnv K g H ρ σ P → σ'.length = σ.length → (∀ (i : Nat) (d : Dt), ρ[i]? = some (some d) → σ'[i]? = σ[i]?) → REnv K g H ρ σ' P
  | [], σ, σ', P, h, l, _ => by
    unfold REnv at h ⊢
    obtain ⟨rfl, n⟩ := h
    exact ⟨List.eq_nil_of_length_eq_zero (by simpa using l), n⟩
  | none :: ρ, σ, σ', P, h, l, k => by
    unfold REnv at h ⊢
    obtain ⟨x, r, rfl, h⟩ := h
    cases σ' with
    | nil => simp at l
    | cons y σ' => exact ⟨y, σ', rfl, REnv.agree h (by simpa using l) fun i d e => by have := k (i + 1) d (by simpa using e); simpa using this⟩
  | some d :: ρ, σ, σ', P, h, l, k => by
    unfold REnv at h ⊢
    obtain ⟨v, r, P1, P2, rfl, h1, h2, h3, h4⟩ := h
    cases σ' with
    | nil => simp at l
    | cons y σ' =>
      have hy : y = some v := by have := k 0 d rfl; simpa using this
      subst hy
      exact ⟨v, σ', P1, P2, rfl, h1, REnv.agree h2 (by simpa using l) fun i d e => by have := k (i + 1) d (by simpa using e); simpa using this, h3, h4⟩
theorem REnv.blank : ∀ (js : List Nat) {ρ : List (Option Dt)} {σ : St} {P : Fp}, REnv K g H ρ σ P → ∃ P', REnv K g H (blankR js ρ) (L2.blank js σ) P' ∧ ∀ a, P' a → P a
  | [], ρ, σ, P, h => ⟨P, h, fun _ q => q⟩
  | j :: js, ρ, σ, P, h => by
    obtain ⟨P2, h2, s⟩ := h.store (i := j) none
    obtain ⟨P3, h3, s3⟩ := REnv.blank js h2
    exact ⟨P3, h3, fun a q => s a (s3 a q)⟩
theorem blankR_mem (js : List Nat) : ∀ (ρ : List (Option Dt)) (i : Nat) (d : Dt), (blankR js ρ)[i]? = some (some d) → i ∉ js := by
  induction js with
  | nil => intro ρ i d _; simp
  | cons j js ih =>
    intro ρ i d e
    have h := ih (ρ.set j none) i d e
    intro z
    rcases List.mem_cons.mp z with z | z
    · subst z
      -- a slot that is blank stays blank
      have : ∀ (js : List Nat) (ρ : List (Option Dt)), ρ[i]? = some none ∨ ρ[i]? = none → (blankR js ρ)[i]? = some none ∨ (blankR js ρ)[i]? = none := by
        intro js
        induction js with
        | nil => intro ρ h; exact h
        | cons k ks ihk =>
          intro ρ h
          refine ihk (ρ.set k none) ?_
          by_cases hk : k = i
          · subst hk
            by_cases hl : k < ρ.length
            · exact .inl (List.getElem?_set_self hl)
            · exact .inr (by rw [List.getElem?_eq_none_iff, List.length_set]; omega)
          · rw [List.getElem?_set_ne hk]; exact h
      have hb := this js (ρ.set i none) (by
        by_cases hl : i < ρ.length
        · exact .inl (List.getElem?_set_self hl)
        · exact .inr (by rw [List.getElem?_eq_none_iff, List.length_set]; omega))
      rcases hb with q | q
      · have e' : (blankR js (ρ.set i none))[i]? = some (some d) := e
        rw [q] at e'; cases e'
      · have e' : (blankR js (ρ.set i none))[i]? = some (some d) := e
        rw [q] at e'; cases e'
    · exact h z
theorem blank_out (js : List Nat) : ∀ (σ : St) (i : Nat), i ∉ js → (L2.blank js σ)[i]? = σ[i]? := by
  induction js with
  | nil => intro σ i _; rfl
  | cons j js ih =>
    intro σ i h
    show (L2.blank js (σ.set j none))[i]? = _
    rw [ih _ i fun z => h (List.mem_cons_of_mem _ z), List.getElem?_set_ne fun z => h (by rw [← z]; exact List.mem_cons_self)]
theorem Rel.blankTo {m : M} {σ σ2 : St} {P : Fp} (js : List Nat) (h : Rel K g H m σ2 P) (hl : σ2.length = σ.length) (ha : ∀ i, i ∉ js → σ2[i]? = σ[i]?) : ∃ P', Rel K g H (m.blank js) (L2.blank js σ) P' ∧ ∀ a, P' a → P a := by
  obtain ⟨zd, P1, P2, h1, h2, h3, h4⟩ := h
  obtain ⟨P3, k1, s⟩ := REnv.blank js h1
  refine ⟨fun a => P3 a ∨ P2 a, ⟨zd, P3, P2, k1.agree ?_ fun i d e => ?_, h2, fun a q z => h3 a (s a q) z, fun _ => Iff.rfl⟩, fun a q => (h4 a).mpr (q.elim (fun q => .inl (s a q)) .inr)⟩
  · rw [L2.blank_length, L2.blank_length, hl]
  · have hi := blankR_mem js _ i d e
    rw [blank_out js _ i hi, blank_out js _ i hi, ha i hi]
theorem REnv.putcp {ρ : List (Option Dt)} {σ : St} {P : Fp} {j : Nat} {d : Dt} {v : V} (h : REnv K g H ρ σ P) (e : σ[j]? = some (some v)) (k : Rep K g H d v nop) : ∃ P', REnv K g H (ρ.set j (some d)) σ P' ∧ ∀ a, P' a → P a := by
  obtain ⟨P2, h2, s⟩ := h.store (i := j) (some v)
  have hj : j < σ.length := (List.getElem?_eq_some_iff.mp e).1
  have hs : σ.set j (some v) = σ := by
    apply List.ext_getElem?
    intro i
    by_cases hi : j = i
    · subst hi; rw [List.getElem?_set_self hj, e]
    · rw [List.getElem?_set_ne hi]
  rw [hs] at h2
  have hl : j < ρ.length := by rw [h.len]; exact hj
  have := h2.put (i := j) (d := d) (List.getElem?_set_self hl) e k fun _ z => z.elim
  rw [List.set_set] at this
  exact ⟨_, this, fun a q => q.elim False.elim (s a)⟩
theorem REnv.rst {ρ0 ρ : List (Option Dt)} {σ : St} {P : Fp} (js : List Nat) (h : REnv K g H (blankR js ρ) σ P) (old : ∀ (j : Nat) (d : Dt), ρ0[j]? = some (some d) → d.cp = true → ∃ v, σ[j]? = some (some v) ∧ Rep K g H d v nop) :
    ∃ P', REnv K g H (Q.rst js ρ0 ρ) σ P' ∧ ∀ a, P' a → P a := by
  unfold Q.rst
  generalize blankR js ρ = ρ1 at h
  induction js generalizing ρ1 P with
  | nil => exact ⟨P, h, fun _ q => q⟩
  | cons j js ih =>
    simp only [List.foldl_cons]
    cases e : ρ0[j]? with
    | none => exact ih _ h
    | some o =>
      cases o with
      | none => exact ih _ h
      | some d =>
        cases c : d.cp with
        | false => simp only [c, cond_false]; exact ih _ h
        | true =>
          simp only [c, cond_true]
          obtain ⟨v, ev, rv⟩ := old j d e c
          obtain ⟨P2, h2, s⟩ := h.putcp ev rv
          obtain ⟨P3, h3, s3⟩ := ih _ h2
          exact ⟨P3, h3, fun a q => s a (s3 a q)⟩
end
theorem comp_imp {K : PySem.W.Frag} {src : Ev (List Dt)} {js : List Nat} {g : TG} {ft : Tg} {f : Ev Dt} (ht : TgR K js g ft) {σ : St} {H : Hp} {Q : VK} (h : tq K (evComp src js ft f) σ H Q) : tComp (tqI K src) js g (tq K f) σ H Q := by
  obtain ⟨g0, m, P, r, d, m', e, k⟩ := h
  simp only [evComp, Option.bind_eq_bind, Option.bind_eq_some_iff, Prod.exists] at e
  obtain ⟨ds, m1, e1, e⟩ := e
  split at e
  · rename_i hz
    simp only [Option.bind_eq_some_iff, Prod.exists, Option.some.injEq, Prod.mk.injEq] at e
    obtain ⟨xs, m2, e2, rfl, rfl⟩ := e
    refine ⟨g0, m, P, r, ds, m1, e1, fun g1 P1 Ph H1 J s r1 n yl => ?_⟩
    have lenx : ∀ (ds : List Dt) (m1 : M) (xs : List Dt) (m2 : M), compL js ft f ds m1 = some (xs, m2) → xs.length = ds.length := by
      intro ds
      induction ds with
      | nil => intro m1 xs m2 e; simp only [compL, Option.some.injEq, Prod.mk.injEq] at e; rw [← e.1]
      | cons d ds ih =>
        intro m1 xs m2 e
        simp only [compL, Option.bind_eq_bind, Option.bind_eq_some_iff, Prod.exists, Option.some.injEq, Prod.mk.injEq] at e
        obtain ⟨m3, _, x, m4, _, ys, m5, e5, rfl, rfl⟩ := e
        simp [ih _ _ _ e5]
    have hx := lenx ds m1 xs m2 e2
    obtain ⟨P1', r1', sp1⟩ := r1.blankTo js (σ := σ) rfl fun _ _ => rfl
    refine ⟨fun i j ys H => j = ds.length - i ∧ i ≤ ds.length ∧ ∃ g2 m3 P2 Py, Step g1 P1 H1 g2 (fun a => P2 a ∨ Py a) H ∧ Rel K g2 H (m3.blank js) (L2.blank js σ) P2 ∧ Reps K g2 H (xs.take i) ys Py ∧ Disj P2 Py ∧ compL js ft f (ds.drop i) m3 = some (xs.drop i, m2),
      ⟨ds.length, by simp, Nat.zero_le _, g1, m1, P1', nop, Step.refl.sub (fun _ q => q) fun a q => q.elim (sp1 a) False.elim, r1', by simpa using Reps.nil, fun _ _ z => z, by simpa using e2⟩, ?_⟩
    rintro i j ys H2 ⟨rfl, hi, g2, m3, P2, Py, s2, r2, ry, n2, e3⟩
    have hyl : ys.length = i := by rw [← ry.len, List.length_take, hx]; omega
    have st : Stay g1 H1 Ph g2 H2 := ⟨P1, _, s2, r1.fpOk, fun a q z => n a z q⟩
    by_cases hlt : i < ds.length
    · have hlx : i < xs.length := by omega
      rw [List.drop_eq_getElem_cons hlt, List.drop_eq_getElem_cons hlx] at e3
      simp only [compL, Option.bind_eq_bind, Option.bind_eq_some_iff, Prod.exists, Option.some.injEq, Prod.mk.injEq, List.cons.injEq] at e3
      obtain ⟨m4, e4, x, m5, e5, xs', m6, e6, ⟨ex, exs⟩, em⟩ := e3
      subst ex exs em
      obtain ⟨go, yy⟩ := (yl g2 H2 st).1 i ds[i] (List.getElem?_eq_getElem hlt)
      refine .inr ⟨go, by rw [hyl]; exact Nat.lt_of_lt_of_le hlt (Nat.le_trans hz (by decide)), fun zs H' => ∃ g5 m7 P5 Pz, Step g1 P1 H1 g5 (fun a => P5 a ∨ Pz a) H' ∧ Rel K g5 H' (m7.blank js) (L2.blank js σ) P5 ∧ Reps K g5 H' (xs.take (i + 1)) zs Pz ∧ Disj P5 Pz ∧ compL js ft f (ds.drop (i + 1)) m7 = some (xs.drop (i + 1), m6), ?_, fun y H3 hy => ?_⟩
      · rintro zs H' h5
        exact ⟨ds.length - (i + 1), by omega, rfl, hlt, h5⟩
      · obtain ⟨Pv, s3, h3, r3, n3⟩ := New.go (g0 := g2) (P0 := P2) (H0 := H2) (Px := nop) (Step.refl.sub (fun _ q => q) fun _ q => q.elim id False.elim) r2 (yy y H3 hy)
        refine ht g2 (m3.blank js) m4 P2 ds[i] Pv y _ H3 _ r3 h3 n3 e4 fun P' σ' sp ip r' => ?_
        have s23 : Step g2 P2 H2 g2 P' H3 := s3.sub (fun _ q => q) sp
        refine ⟨g2, m4, P', r', xs[i], m5, e5, fun g5 P5 Pw v H5 s5 rv r5 n5 => ?_⟩
        have s25 := s23.trans s5
        have fy := ry.fpOk
        have ry5 := ry.held s25 r2.fpOk fun a q z => n2 a z q
        have dn : ∀ a, Py a → ¬ (P5 a ∨ Pw a) := fun a q z => by
          rcases s25.nw a z with z | z
          · exact n2 a z q
          · have := (fy a q).1; rw [z] at this; exact this
        obtain ⟨P6, r6, sp6⟩ := r5.blankTo js (σ := σ) (by rw [ip.1, L2.blank_length]) fun l hl => by rw [ip.2 l hl, blank_out js σ l hl]
        refine ⟨g5, m5, P6, fun a => Py a ∨ Pw a, ?_, r6, ?_, fun a q z => z.elim (fun z => dn a z (.inl (sp6 a q))) fun z => n5 a (sp6 a q) z, e6⟩
        · refine (s2.trans (s25.frame (R := Py))).sub (fun _ q => q) fun a q => ?_
          exact q.elim (fun q => .inl (.inl (sp6 a q))) fun q => q.elim .inr fun q => .inl (.inr q)
        · rw [List.take_add_one, List.getElem?_eq_getElem hlx]
          refine (Reps.app ry5 (Reps.cons rv Reps.nil fun _ _ z => z) fun a q z => z.elim (fun z => dn a q (.inr z)) id).iff fun a => ?_
          exact ⟨fun z => z.elim .inl fun z => .inr (.inl z), fun z => z.elim .inl fun z => z.elim .inr False.elim⟩
    · have ei : i = ds.length := by omega
      subst ei
      rw [List.drop_length] at e3
      simp only [compL, Option.some.injEq, Prod.mk.injEq] at e3
      obtain ⟨ex, rfl⟩ := e3
      refine .inl ⟨(yl g2 H2 st).2 _ (Nat.le_refl _), fun p hp => ?_⟩
      have tk : xs.take ds.length = xs := List.take_of_length_le (by omega)
      rw [tk] at ry
      have sm := same_new hp (.lst ys)
      have sn := Step.same (g := g2) (P := nop) sm
      have ry2 := ry.held sn (fun _ z => z.elim) fun _ _ z => z
      have np : ∀ {R : Fp}, FpOk g2 H2 R → ¬ R p := fun ok z => by have := (ok p z).1; rw [hp] at this; exact this
      -- the outer state again
      obtain ⟨zd, Pa, Pb, h1, h2, h3, h4⟩ := r2.held sn (fun _ z => z.elim) fun _ _ z => z
      have h1' : REnv K g2 _ (blankR js m3.ρ) σ Pa := h1.agree (by rw [L2.blank_length]) fun l d el => (blank_out js σ l (blankR_mem js _ l d el)).symm
      obtain ⟨Pc, h5, sc⟩ := h1'.rst (ρ0 := m1.ρ) js fun l d el cd => by
        obtain ⟨v, Pl, ev, rl, _⟩ := r1.see el
        exact ⟨v, ev, ((rl.cp cd).held s2 r1.fpOk fun _ z => z.elim).held sn (fun _ z => z.elim) fun _ z => z.elim⟩
      refine k g2 (fun a => Pc a ∨ Pb a) (fun b => b = p ∨ Py b) (.ref p) _ ?_ ?_ ⟨zd, Pc, Pb, h5, h2, fun a q z => h3 a (sc a q) z, fun _ => Iff.rfl⟩ fun a q z => ?_
      · have sall := (s.sub (Q' := P1) (fun _ q => q) fun _ q => .inl q).trans s2
        refine sall.trans ⟨fun b o h _ => sm b o h, sn.dom, fun _ h => h, fun _ h => .inl h, ⟨[], by simp⟩, fun a h => ?_, sn.zd⟩
        rcases h with h | h | h
        · exact .inl (.inl ((h4 a).mpr (h.elim (fun h => .inl (sc a h)) .inr)))
        · exact .inr (h ▸ hp)
        · exact .inl (.inr h)
      · unfold Rep
        exact ⟨p, ys, Py, rfl, ⟨upd_same, fun z => r2.zd p z hp⟩, ry2, np ry.fpOk, fun z => by (cases z), fun b => ⟨fun z => z.elim (fun z => .inl ⟨rfl, z⟩) .inr, fun z => z.elim (fun z => .inl z.2) .inr⟩⟩
      · have q2 : P2 a := (h4 a).mpr (q.elim (fun q => .inl (sc a q)) .inr)
        rcases z with z | z
        · exact np r2.fpOk (z ▸ q2)
        · exact n2 a q2 z
  · cases e
section
variable {X : Cx} {tg iter elt : Expr} {scope : Scope} {pos : Pos} {g : TG} {ft : Tg} {f : Ev Dt} {js : List Nat} {src : Ev (List Dt)}
theorem q_comp (hin : innerOk X.N X.env.scope scope js = true) (hc : X.calm = true) (hi : QI X tg iter src) (hg : ∀ cl C s H fp, PG (X.inner scope cl C s H fp) tg g) (hgo : GOk js g) (ht : TgR X.K js g ft) (he : ∀ cl C s H fp, QE (X.inner scope cl C s H fp) elt f)
    (hs : ∀ x, foldedSetIterable iter X.env x = pure x := by intro _; rfl) : QE X (.ListComp elt [⟨tg, iter, [], 0⟩] scope pos) (evComp src js ft f) := ⟨PE.imp (pe_comp hin hc hi.h hg hgo (fun cl C s H fp => (he cl C s H fp).h) hs) fun _ _ _ h => comp_imp ht h⟩
theorem qs_setC {io : List Nat} {i : Nat} {x : Str} {pos' spos : Pos} (hN : X.N.Nodup) (hix : X.N[i]? = some x) (hx : Loc X.env.scope x) (hio : i ∉ io)
    (hin : innerOk X.N X.env.scope scope js = true) (hc : X.calm = true) (hi : QI X tg iter src) (hg : ∀ cl C s H fp, PG (X.inner scope cl C s H fp) tg g) (hgo : GOk js g) (ht : TgR X.K js g ft) (he : ∀ cl C s H fp, QE (X.inner scope cl C s H fp) elt f)
    (hsw : swapsWith (.ListComp elt [⟨tg, iter, [], 0⟩] scope pos) (some (.Name x pos')) spos.line X.env = pure true := by rfl)
    (hs : ∀ x, foldedSetIterable iter X.env x = pure x := by intro _; rfl)
    (hf : X.fn x = true ∨ X.env.scope.names.lookup x = some .local := by first | exact .inl rfl | exact .inr rfl | assumption) : QS X io (.Assign [.Name x pos'] (.ListComp elt [⟨tg, iter, [], 0⟩] scope pos) spos) (evAsg (evComp src js ft f) (tgN i)) := ⟨PS.imp (ps_setC hN hix hx hin hc hi.h hg hgo (fun cl C s H fp => (he cl C s H fp).h) hsw hs hf) fun D σ H h => comp_imp (Q := fun x H1 => gName i x σ H1 D.nx) ht (asg_run (K := X.K) tg_name (fun j hj z => hio (by rw [← List.mem_singleton.mp z]; exact hj)) h)⟩
end
end Q
namespace Q
open PySem L2
abbrev Fn := List Dt → List Ob → Option (Dt × List Dt × List Ob)
def Bk (K : PySem.W.Frag) (g : G) (H : Hp) (vs : List V) : List Nat → List Dt → Fp → Prop
  | [], bs, P => bs = [] ∧ ∀ a, ¬ P a
  | i :: io, bs, P => ∃ b br v P1 P2, bs = b :: br ∧ vs[i]? = some v ∧ Rep K g H b v P1 ∧ Bk K g H vs io br P2 ∧ Disj P1 P2 ∧ ∀ a, P a ↔ P1 a ∨ P2 a
def spq (K : PySem.W.Frag) (n : Nat) (io : List Nat) (Φ : Fn) : Sp := fun vs H Q _ => ∃ g ds S Pa Ps, ds.length = n ∧ Zd g H ∧ Reps K g H ds vs Pa ∧ RSt K g H S Ps ∧ Disj Pa Ps ∧ ∃ d bs S', Φ ds S = some (d, bs, S') ∧
  ∀ g' H' v Pv Pb Ps', Step g (fun a => Pa a ∨ Ps a) H g' (fun a => Pv a ∨ Pb a ∨ Ps' a) H' → Zd g' H' → Rep K g' H' d v Pv → Bk K g' H' vs io bs Pb → RSt K g' H' S' Ps' → Disj Pv Pb → Disj Pv Ps' → Disj Pb Ps' → Q v H'
def backs (io : List Nat) (ρ : List (Option Dt)) : Option (List Dt) := match io with
  | [] => some []
  | i :: io => do
    let b ← (ρ[i]?).join
    let bs ← backs io ρ
    some (b :: bs)
def fnRun (N : Nat) (io : List Nat) (body : Es) (ds : List Dt) (S : List Ob) : Option (Dt × List Dt × List Ob) := do
  let (fl, m') ← body ⟨ds.map some ++ List.replicate (N - ds.length) none, S⟩
  let bs ← backs io m'.ρ
  match fl with
  | .rt d => some (d, bs, m'.S)
  | .nx => some (.non, bs, m'.S)
  | _ => none
section
variable {K : PySem.W.Frag} {g : G} {H : Hp}
theorem REnv.nones : ∀ (n : Nat), REnv K g H (List.replicate n none) (List.replicate n none) nop
  | 0 => by unfold REnv; exact ⟨rfl, fun _ z => z⟩
  | n + 1 => by show REnv K g H (none :: List.replicate n none) (none :: List.replicate n none) nop; unfold REnv; exact ⟨none, _, rfl, REnv.nones n⟩
theorem REnv.start : ∀ {ds : List Dt} {vs : List V} {P : Fp} (n : Nat), Reps K g H ds vs P → REnv K g H (ds.map some ++ List.replicate n none) (vs.map some ++ List.replicate n none) P
  | [], vs, P, n, h => by
    unfold Reps at h
    obtain ⟨rfl, h⟩ := h
    exact (REnv.nones n).iff fun a => ⟨fun z => (h a z).elim, fun z => z.elim⟩
  | d :: ds, vs, P, n, h => by
    unfold Reps at h
    obtain ⟨v, r, P1, P2, rfl, h1, h2, h3, h4⟩ := h
    show REnv K g H (some d :: (ds.map some ++ List.replicate n none)) (some v :: (r.map some ++ List.replicate n none)) P
    unfold REnv
    exact ⟨v, _, P1, P2, rfl, h1, REnv.start n h2, h3, h4⟩
theorem bk_of {σ0 : St} {vs : List V} : ∀ {io : List Nat} {ρ : List (Option Dt)} {σ : St} {P : Fp} {bs : List Dt}, io.Nodup → backs io ρ = some bs → REnv K g H ρ σ P → (∀ i ∈ io, σ[i]? = (vs[i]?).map some) → ∃ Pb, Bk K g H vs io bs Pb ∧ ∀ a, Pb a → P a
  | [], ρ, σ, P, bs, _, e, h, _ => by
    simp only [backs, Option.some.injEq] at e
    subst e
    exact ⟨nop, by unfold Bk; exact ⟨rfl, fun _ z => z⟩, fun _ z => z.elim⟩
  | i :: io, ρ, σ, P, bs, nd, e, h, hv => by
    simp only [backs, Option.bind_eq_bind, Option.bind_eq_some_iff, Option.some.injEq] at e
    obtain ⟨b, e1, br, e2, rfl⟩ := e
    obtain ⟨v, P1, P2, ev, k1, k2, k3, k4⟩ := h.take (join_some e1)
    rw [List.nodup_cons] at nd
    have e2' : backs io (ρ.set i none) = some br := by
      rw [← e2]
      have : ∀ (io : List Nat), i ∉ io → backs io (ρ.set i none) = backs io ρ := by
        intro io
        induction io with
        | nil => intro _; rfl
        | cons j io ih =>
          intro hj
          have hne : i ≠ j := fun z => hj (by rw [z]; exact List.mem_cons_self)
          simp only [backs]
          rw [List.getElem?_set_ne hne, ih fun z => hj (List.mem_cons_of_mem _ z)]
      exact this io nd.1
    obtain ⟨Pb, hb, sb⟩ := bk_of (σ0 := σ0) nd.2 e2' k2 fun j hj => hv j (List.mem_cons_of_mem _ hj)
    have hvi : vs[i]? = some v := by
      have := hv i List.mem_cons_self
      rw [ev] at this
      cases q : vs[i]? with
      | none => rw [q] at this; cases this
      | some w => rw [q] at this; cases this; rfl
    refine ⟨fun a => P1 a ∨ Pb a, ?_, fun a q => (k4 a).mpr (q.elim .inl fun q => .inr (sb a q))⟩
    unfold Bk
    exact ⟨b, br, v, P1, Pb, rfl, hvi, k1, hb, fun a q z => k3 a q (sb a z), fun _ => Iff.rfl⟩
end
theorem fn_q {P : Program} {w : World} {K : PySem.W.Frag} {mg : Str → Option Value} {base : Heap} {x qual : Str} {st : Stmt} {f : Addr} {fd : FuncData} {N ps : List Str} {k : Nat} {io : List Nat} {Φ : Fn} (F : Fun K x qual st f fd) (S : FnScope N ps (defScope st)) (nd : io.Nodup) (hio : ∀ i ∈ io, i < ps.length)
    (hbody : ∃ body : Es, (∀ (cdv : Value) (A : Around) (outer : List Env) (s : Shared) (H : Hp) (E : XK), Room k (A.deeper (PyProof.Rows.envOfC qual (defScope st) s.heap.objs.size f cdv)) → QSs (cxOf CX0 P w K mg base N qual (defScope st) f cdv A outer s H E).nox io (defBody st) body) ∧
      ∀ ds S r, ds.length = ps.length → Φ ds S = some r → fnRun N.length io body ds S = some r) : FnOk P w K mg base CX0 (k + 1) f fd ps (spq K ps.length io Φ) := by
  obtain ⟨body, hb, hΦ⟩ := hbody
  refine F.ok S (fun vs H Q E h => ?_) fun cdv A outer s H vs Q E hr h => ⟨_, (hb cdv A outer s H E hr).h, ?_⟩
  · obtain ⟨g, ds, S, Pa, Ps, hn, _, h1, _⟩ := h
    rw [← h1.len]; exact hn
  · obtain ⟨g, ds, S', Pa, Ps, hn, zd, h1, h2, h3, d, bs, S'', e, k⟩ := h
    have e2 := hΦ ds S' _ hn e
    simp only [fnRun, Option.bind_eq_bind, Option.bind_eq_some_iff, Prod.exists] at e2
    obtain ⟨fl, m', e3, bs', e4, e2⟩ := e2
    have r0 : Rel K g H ⟨ds.map some ++ List.replicate (N.length - ds.length) none, S'⟩ (L2.start N vs) fun a => Pa a ∨ Ps a := by
      refine ⟨zd, Pa, Ps, ?_, h2, h3, fun _ => Iff.rfl⟩
      unfold L2.start
      rw [← h1.len]
      exact REnv.start _ h1
    refine ⟨g, _, _, r0, fl, m', e3, ?_⟩
    have hv : ∀ σ', Io io (L2.start N vs) σ' → ∀ i ∈ io, σ'[i]? = (vs[i]?).map some := fun σ' hi i hm => by
      rw [hi i hm]
      unfold L2.start
      have hl : i < vs.length := by rw [← h1.len, hn]; exact hio i hm
      rw [List.getElem?_append_left (by simpa using hl), List.getElem?_map]
    cases fl with
    | nx =>
      simp only [Option.some.injEq, Prod.mk.injEq] at e2
      obtain ⟨rfl, rfl, rfl⟩ := e2
      intro g' P' σ' H' s' i' r'
      obtain ⟨zd', P1, P2, q1, q2, q3, q4⟩ := r'
      obtain ⟨Pb, hbk, sb⟩ := bk_of (σ0 := σ') nd e4 q1 (hv σ' i')
      exact k g' H' .non nop Pb P2 (s'.sub (fun _ q => q) fun a q => (q4 a).mpr (q.elim False.elim fun q => q.elim (fun q => .inl (sb a q)) .inr)) zd' (by unfold Rep; exact ⟨rfl, fun _ z => z⟩) hbk q2 (fun _ z => z.elim) (fun _ z => z.elim) fun a q z => q3 a (sb a q) z
    | rt d' =>
      simp only [Option.some.injEq, Prod.mk.injEq] at e2
      obtain ⟨rfl, rfl, rfl⟩ := e2
      intro g' P' Pv σ' v H' s' i' rv r' n
      obtain ⟨zd', P1, P2, q1, q2, q3, q4⟩ := r'
      obtain ⟨Pb, hbk, sb⟩ := bk_of (σ0 := σ') nd e4 q1 (hv σ' i')
      exact k g' H' v Pv Pb P2 (s'.sub (fun _ q => q) fun a q => q.elim .inr fun q => .inl ((q4 a).mpr (q.elim (fun q => .inl (sb a q)) .inr))) zd' rv hbk q2 (fun a q z => n a ((q4 a).mpr (.inl (sb a z))) q) (fun a q z => n a ((q4 a).mpr (.inr z)) q) fun a q z => q3 a (sb a q) z
    | ct => cases e2
    | bk => cases e2
def rfs : List Om → List Nat
  | [] => []
  | .ev _ :: os => rfs os
  | .rf j :: os => j :: rfs os
def clr (os : List Om) (ρ : List (Option Dt)) : List (Option Dt) := (rfs os).foldl (fun ρ j => ρ.set j none) ρ
def bput (os : List Om) : List Nat → List Dt → List (Option Dt) → List (Option Dt)
  | i :: io, b :: bs, ρ => bput os io bs (match os[i]? with | some (.rf j) => ρ.set j (some b) | _ => ρ)
  | _, _, ρ => ρ
def evCall (Φ : Fn) (n : Nat) (io : List Nat) (os : List Om) (m : M) : Option (Dt × M) := do
  let (ds, m1) ← evOms os m
  if ds.length = n then do
    let (d, bs, S') ← Φ ds m1.S
    some (d, ⟨bput os io bs (clr os m1.ρ), S'⟩)
  else none
section
variable {K : PySem.W.Frag} {g : G} {H : Hp} {σ : St}
theorem RepAs.other {i : Nat} {x : Option Dt} {ρ : List (Option Dt)} : ∀ {os : List Om} {ds : List Dt} {vs : List V} {P : Fp}, i ∉ rfs os → RepAs K g H ρ σ os ds vs P → RepAs K g H (ρ.set i x) σ os ds vs P
  | [], ds, vs, P, _, h => by unfold RepAs at h ⊢; exact h
  | .ev f :: os, ds, vs, P, hi, h => by
    unfold RepAs at h ⊢
    obtain ⟨d, dr, v, vr, P1, P2, e1, e2, h1, h2, h3, h4⟩ := h
    exact ⟨d, dr, v, vr, P1, P2, e1, e2, h1, RepAs.other (by unfold rfs at hi; exact hi) h2, h3, h4⟩
  | .rf j :: os, ds, vs, P, hi, h => by
    unfold RepAs at h ⊢
    unfold rfs at hi
    obtain ⟨d, dr, v, vr, e1, e2, h1, h2, h3⟩ := h
    exact ⟨d, dr, v, vr, e1, e2, h1, by rw [List.getElem?_set_ne fun z => hi (by rw [z]; exact List.mem_cons_self)]; exact h2, RepAs.other (fun z => hi (List.mem_cons_of_mem _ z)) h3⟩
theorem RepAs.takeAll : ∀ {os : List Om} {ρ : List (Option Dt)} {ds : List Dt} {vs : List V} {P Pv : Fp}, (rfs os).Nodup → RepAs K g H ρ σ os ds vs Pv → REnv K g H ρ σ P → Disj P Pv →
    ∃ Pa Pr, Reps K g H ds vs Pa ∧ REnv K g H (clr os ρ) σ Pr ∧ Disj Pa Pr ∧ (∀ a, Pa a → P a ∨ Pv a) ∧ (∀ a, Pr a → P a)
  | [], ρ, ds, vs, P, Pv, _, h, r, _ => by
    unfold RepAs at h
    obtain ⟨rfl, rfl, n⟩ := h
    exact ⟨nop, P, Reps.nil, r, fun _ z => z.elim, fun _ z => z.elim, fun _ q => q⟩
  | .ev f :: os, ρ, ds, vs, P, Pv, nd, h, r, dj => by
    unfold RepAs at h
    obtain ⟨d, dr, v, vr, P1, P2, rfl, rfl, h1, h2, h3, h4⟩ := h
    obtain ⟨Pa, Pr, k1, k2, k3, k4, k5⟩ := RepAs.takeAll (by unfold rfs at nd; exact nd) h2 r fun a q z => dj a q ((h4 a).mpr (.inr z))
    refine ⟨fun a => P1 a ∨ Pa a, Pr, Reps.cons h1 k1 fun a q z => (k4 a z).elim (fun z => dj a z ((h4 a).mpr (.inl q))) fun z => h3 a q z, k2, fun a q z => q.elim (fun q => dj a (k5 a z) ((h4 a).mpr (.inl q))) fun q => k3 a q z, fun a q => q.elim (fun q => .inr ((h4 a).mpr (.inl q))) fun q => (k4 a q).elim .inl fun q => .inr ((h4 a).mpr (.inr q)), k5⟩
  | .rf j :: os, ρ, ds, vs, P, Pv, nd, h, r, dj => by
    unfold RepAs at h
    obtain ⟨d, dr, v, vr, rfl, rfl, h1, h2, h3⟩ := h
    unfold rfs at nd
    rw [List.nodup_cons] at nd
    obtain ⟨v', P1, P2, ev, q1, q2, q3, q4⟩ := r.take h2
    rw [h1] at ev; cases ev
    obtain ⟨Pa, Pr, k1, k2, k3, k4, k5⟩ := RepAs.takeAll nd.2 (RepAs.other nd.1 h3) q2 fun a q z => dj a ((q4 a).mpr (.inr q)) z
    refine ⟨fun a => P1 a ∨ Pa a, Pr, Reps.cons q1 k1 fun a q z => (k4 a z).elim (fun z => q3 a q z) fun z => dj a ((q4 a).mpr (.inl q)) z, k2, fun a q z => q.elim (fun q => q3 a q (k5 a z)) fun q => k3 a q z, fun a q => q.elim (fun q => .inl ((q4 a).mpr (.inl q))) fun q => (k4 a q).elim (fun q => .inl ((q4 a).mpr (.inr q))) .inr, fun a q => (q4 a).mpr (.inr (k5 a q))⟩
theorem REnv.putAny {ρ : List (Option Dt)} {P P1 : Fp} {j : Nat} {d : Dt} {v : V} (h : REnv K g H ρ σ P) (e : σ[j]? = some (some v)) (k : Rep K g H d v P1) (n : Disj P1 P) : ∃ P', REnv K g H (ρ.set j (some d)) σ P' ∧ ∀ a, P' a → P a ∨ P1 a := by
  obtain ⟨P2, h2, s⟩ := h.store (i := j) (some v)
  have hj : j < σ.length := (List.getElem?_eq_some_iff.mp e).1
  have hs : σ.set j (some v) = σ := by
    apply List.ext_getElem?
    intro i
    by_cases hi : j = i
    · subst hi; rw [List.getElem?_set_self hj, e]
    · rw [List.getElem?_set_ne hi]
  rw [hs] at h2
  have hl : j < ρ.length := by rw [h.len]; exact hj
  have := h2.put (i := j) (d := d) (List.getElem?_set_self hl) e k fun a q z => n a q (s a z)
  rw [List.set_set] at this
  exact ⟨_, this, fun a q => q.elim .inr fun q => .inl (s a q)⟩
theorem RepAs.slot {g : G} {H : Hp} {ρ : List (Option Dt)} : ∀ {os : List Om} {ds : List Dt} {vs : List V} {P : Fp} {i j : Nat}, RepAs K g H ρ σ os ds vs P → os[i]? = some (.rf j) → ∀ v, vs[i]? = some v → σ[j]? = some (some v)
  | [], _, _, _, i, j, _, e => by simp at e
  | .ev f :: os, ds, vs, P, i, j, h, e => by
    unfold RepAs at h
    obtain ⟨d, dr, v, vr, P1, P2, rfl, rfl, h1, h2, h3, h4⟩ := h
    cases i with
    | zero => simp at e
    | succ i => intro v' ev; exact RepAs.slot h2 (by simpa using e) v' (by simpa using ev)
  | .rf l :: os, ds, vs, P, i, j, h, e => by
    unfold RepAs at h
    obtain ⟨d, dr, v, vr, rfl, rfl, h1, h2, h3⟩ := h
    cases i with
    | zero =>
      simp at e
      subst e
      intro v' ev
      simp at ev
      subst ev
      exact h1
    | succ i => intro v' ev; exact RepAs.slot h3 (by simpa using e) v' (by simpa using ev)
theorem bput_ok {os : List Om} {vs : List V} (hs : ∀ (i j : Nat) (v : V), os[i]? = some (Om.rf j) → vs[i]? = some v → σ[j]? = some (some v)) : ∀ {io : List Nat} {bs : List Dt} {ρ : List (Option Dt)} {P Pb : Fp}, REnv K g H ρ σ P → Bk K g H vs io bs Pb → Disj P Pb →
    ∃ P', REnv K g H (bput os io bs ρ) σ P' ∧ ∀ a, P' a → P a ∨ Pb a
  | [], bs, ρ, P, Pb, r, h, _ => by unfold bput; exact ⟨P, r, fun _ q => .inl q⟩
  | i :: io, bs, ρ, P, Pb, r, h, n => by
    unfold Bk at h
    obtain ⟨b, br, v, P1, P2, rfl, ev, h1, h2, h3, h4⟩ := h
    unfold bput
    have go : ∀ {ρ' : List (Option Dt)} {P' : Fp}, REnv K g H ρ' σ P' → (∀ a, P' a → P a ∨ P1 a) → ∃ P', REnv K g H (bput os io br ρ') σ P' ∧ ∀ a, P' a → P a ∨ Pb a := fun {ρ' P'} r' s' => by
      obtain ⟨P3, r3, s3⟩ := bput_ok hs r' h2 fun a q z => (s' a q).elim (fun q => n a q ((h4 a).mpr (.inr z))) fun q => h3 a q z
      exact ⟨P3, r3, fun a q => (s3 a q).elim (fun q => (s' a q).elim .inl fun q => .inr ((h4 a).mpr (.inl q))) fun q => .inr ((h4 a).mpr (.inr q))⟩
    cases eo : os[i]? with
    | none => exact go r fun _ q => .inl q
    | some o =>
      cases o with
      | ev f => exact go r fun _ q => .inl q
      | rf j =>
        obtain ⟨P', r', s'⟩ := r.putAny (hs i j v eo ev) h1 fun a q z => n a z ((h4 a).mpr (.inl q))
        exact go r' s'
end
theorem call_run {K : PySem.W.Frag} {n : Nat} {io : List Nat} {Φ : Fn} {os : List Om} (nd : (rfs os).Nodup) {σ : St} {H : Hp} {Q : VK} (h : tq K (evCall Φ n io os) σ H Q) : tOms K os σ H fun vs H1 => spq K n io Φ vs H1 Q E0 := by
  obtain ⟨g, m, P, r, d, m', e, k⟩ := h
  simp only [evCall, Option.bind_eq_bind, Option.bind_eq_some_iff, Prod.exists] at e
  obtain ⟨ds, m1, e1, e⟩ := e
  split at e
  · rename_i hn
    simp only [Option.bind_eq_some_iff, Prod.exists, Option.some.injEq, Prod.mk.injEq] at e
    obtain ⟨d', bs, S', e2, rfl, rfl⟩ := e
    refine oms_run os r e1 fun g' P' Pv vs H' s rs r1 n1 => ?_
    obtain ⟨zd, P1, P2, h1, h2, h3, h4⟩ := r1
    obtain ⟨Pa, Pr, k1, k2, k3, k4, k5⟩ := rs.takeAll nd h1 fun a q z => n1 a ((h4 a).mpr (.inl q)) z
    refine ⟨g', ds, m1.S, Pa, P2, hn, zd, k1, h2, fun a q z => (k4 a q).elim (fun q => h3 a q z) fun q => n1 a ((h4 a).mpr (.inr z)) q, d', bs, S', e2, fun g2 H2 v Pw Pb Ps' s2 zd2 rv hb rst n2 n3 n4 => ?_⟩
    -- the rest of the state is held
    have okPa : FpOk g' H' fun a => Pa a ∨ P2 a := k1.fpOk.or h2.fpOk
    have hr := k2.held s2 okPa fun a q z => z.elim (fun z => k3 a z q) fun z => h3 a (k5 a q) z
    have dr : ∀ a, Pr a → ¬ (Pw a ∨ Pb a ∨ Ps' a) := fun a q z => by
      rcases s2.nw a z with (z | z) | z
      · exact k3 a z q
      · exact h3 a (k5 a q) z
      · have := (k2.fpOk a q).1; rw [z] at this; exact this
    obtain ⟨P3, r3, s3⟩ := bput_ok (fun i j v ho hv => rs.slot ho v hv) hr hb fun a q z => dr a q (.inr (.inl z))
    have all : Step g P H g2 (fun a => (P3 a ∨ Ps' a) ∨ Pw a) H2 := by
      refine (s.trans ((s2.frame (R := Pr)).sub (Q := fun a => P' a ∨ Pv a) (fun a q => ?_) (Q' := fun a => (P3 a ∨ Ps' a) ∨ Pw a) fun a q => ?_))
      · rcases q with (q | q) | q
        · exact (k4 a q).elim (fun q => .inl ((h4 a).mpr (.inl q))) .inr
        · exact .inl ((h4 a).mpr (.inr q))
        · exact .inl ((h4 a).mpr (.inl (k5 a q)))
      · rcases q with (q | q) | q
        · exact (s3 a q).elim .inr fun q => .inl (.inr (.inl q))
        · exact .inl (.inr (.inr q))
        · exact .inl (.inl q)
    refine k g2 (fun a => P3 a ∨ Ps' a) Pw v H2 all rv ⟨zd2, P3, Ps', r3, rst, fun a q z => (s3 a q).elim (fun q => dr a q (.inr (.inr z))) fun q => n4 a q z, fun _ => Iff.rfl⟩ fun a q z => ?_
    rcases q with q | q
    · exact (s3 a q).elim (fun q => dr a q (.inl z)) fun q => n2 a z q
    · exact n3 a z q
  · cases e
section
variable {X : Cx} {k j n : Nat} {x : Str} {ps : List Str} {Φ : Fn} {io : List Nat} {p pos : Pos} {e : Expr} {es : List Expr} {os : List Om}
theorem q_call (F : Fx X.prog X.w X.K X.mg X.base k x ps (spq X.K n io Φ)) (hr : Room j X.A) (hkj : k ≤ j) (hg : Gl X x) (ha : QA X (e :: es) os) (nd : (rfs os).Nodup := by decide) (hdb : (x == ("__debug__" : Str)) = false := by decide)
    (he : starEach (e :: es) X.env = (false, eval e X.env) :: starEach es X.env := by rfl) (hpl : (backTo pos (starEach es X.env)).any (·.1) = false := by rfl) : QE X (.Call (.Name x p) (e :: es) [] pos) (evCall Φ n io os) := ⟨PE.imp (pe_fx F hr hkj hg ha.h hdb he hpl) fun _ _ _ h => call_run nd h⟩
end
end Q
namespace Q
open PySem L2
abbrev Mu := List Dt → List Dt → Option (Dt × List Dt)
def MutR (K : PySem.W.Frag) (p : Mu) (R : V → List V → Hp → VK → Prop) : Prop := ∀ g H xs vs Px a ds us Pv r ys Q, Zd g H → H a = some (.lst vs) → ¬ g.Z a → Reps K g H xs vs Px → ¬ Px a → Reps K g H ds us Pv → ¬ Pv a → Disj Px Pv → p xs ds = some (r, ys) →
  (∀ v ws Pr Py, Reps K g (upd H a (.lst ws)) ys ws Py → Rep K g (upd H a (.lst ws)) r v Pr → Disj Py Pr → (∀ b, Py b ∨ Pr b → Px b ∨ Pv b) → Q v (upd H a (.lst ws))) → R (.ref a) us H Q
def evMut (i : Nat) (p : Mu) (os : List Om) (m : M) : Option (Dt × M) := match m.ρ[i]? with
  | some (some (.lst _ _)) => do
    let (ds, m1) ← evOms os m
    match m1.ρ[i]? with
    | some (some (.lst true xs)) => do
      let (r, ys) ← p xs ds
      some (r, m1.set i (some (.lst true ys)))
    | _ => none
  | _ => none
section
variable {K : PySem.W.Frag} {σ : St} {H : Hp}
theorem Step.upd {g : G} {a : Addr} {o : HO} {P' : Fp} (h : H a ≠ none) (hs : ∀ b, P' b → b = a ∨ H b = none) : Step g (fun b => b = a) H g P' (upd H a o) := by
  have dm : ∀ b, L2.upd H a o b = none → H b = none := fun b q => by
    by_cases hb : b = a
    · subst hb; rw [upd_same] at q; cases q
    · rw [upd_ne hb] at q; exact q
  exact ⟨fun b u q n => by rw [upd_ne n]; exact q, dm, fun _ q => q, fun _ q => .inl q, ⟨[], by simp⟩, hs, fun z b q e => z b q (dm b e)⟩
theorem Rel.change {g : G} {m : M} {P : Fp} {i : Nat} {xs : List Dt} (r : Rel K g H m σ P) (e : m.ρ[i]? = some (some (.lst true xs))) :
    ∃ a vs Px P2, σ[i]? = some (some (.ref a)) ∧ H a = some (.lst vs) ∧ ¬ g.Z a ∧ Reps K g H xs vs Px ∧ ¬ Px a ∧ (∀ b, P b ↔ (b = a ∨ Px b) ∨ P2 b) ∧ ¬ P2 a ∧ Disj Px P2 ∧
      ∀ ws ys Py, Reps K g (upd H a (.lst ws)) ys ws Py → ¬ Py a → Disj Py P2 → Rel K g (upd H a (.lst ws)) (m.set i (some (.lst true ys))) σ fun b => (b = a ∨ Py b) ∨ P2 b := by
  obtain ⟨v, P1, P2, ev, k1, k2, k3, k4⟩ := r.take e
  unfold Rep at k1
  obtain ⟨a, vs, Px, rfl, h1, h2, h3, h4, h5⟩ := k1
  have ha : H a = some (.lst vs) := h1.1
  have p1 : ∀ b, P1 b ↔ b = a ∨ Px b := fun b => by rw [h5 b]; exact ⟨fun z => z.elim (fun z => .inl z.2) .inr, fun z => z.elim (fun z => .inl ⟨rfl, z⟩) .inr⟩
  refine ⟨a, vs, Px, P2, ev, ha, h1.2, h2, h3, fun b => by rw [k4 b, p1 b], fun z => k3 a ((p1 a).mpr (.inl rfl)) z, fun b q z => k3 b ((p1 b).mpr (.inr q)) z, fun ws ys Py hy hn hd => ?_⟩
  have st : Step g (fun b => b = a) H g nop (upd H a (.lst ws)) := Step.upd (by rw [ha]; simp) fun _ z => z.elim
  have oka : FpOk g H fun b => b = a := fun b q => by subst q; exact ⟨by rw [ha]; trivial, h1.2⟩
  have r2 := k2.held st oka fun b q z => k3 b ((p1 b).mpr (.inl z)) q
  have rp : Rep K g (upd H a (.lst ws)) (.lst true ys) (.ref a) fun b => b = a ∨ Py b := by
    unfold Rep
    exact ⟨a, ws, Py, rfl, ⟨upd_same, h1.2⟩, hy, hn, fun z => by (cases z), fun b => ⟨fun z => z.elim (fun z => .inl ⟨rfl, z⟩) .inr, fun z => z.elim (fun z => .inl z.2) .inr⟩⟩
  have hi : i < m.ρ.length := (List.getElem?_eq_some_iff.mp e).1
  have r3 := r2.put (i := i) (by show (m.ρ.set i none)[i]? = _; rw [List.getElem?_set_self hi]) ev rp fun b q z => q.elim (fun q => k3 b ((p1 b).mpr (.inl q)) z) fun q => hd b q z
  have em : (m.set i none).set i (some (.lst true ys)) = m.set i (some (.lst true ys)) := by unfold M.set; simp
  rw [em] at r3
  exact r3
theorem mut_run {i : Nat} {p : Mu} {os : List Om} {R : V → List V → Hp → VK → Prop} (hR : MutR K p R) (he : evd os = true) {Q : VK} (h : tq K (evMut i p os) σ H Q) : tBM K "list" R (tVar i) (tOms K os) σ H Q := by
  obtain ⟨g, m, P, r, d, m', e, k⟩ := h
  unfold evMut at e
  split at e
  · rename_i o0 xs0 e0
    simp only [Option.bind_eq_bind, Option.bind_eq_some_iff, Prod.exists] at e
    obtain ⟨ds, m1, e1, e⟩ := e
    split at e
    · rename_i xs e2
      simp only [Option.bind_eq_some_iff, Prod.exists, Option.some.injEq, Prod.mk.injEq] at e
      obtain ⟨r', ys, e3, rfl, rfl⟩ := e
      obtain ⟨v0, P0, ev0, rv0, _⟩ := r.see e0
      obtain ⟨a0, vs0, P0', rfl, h0, _⟩ := rv0.lst
      refine ⟨.ref a0, ev0, .inl ⟨rfl, vs0, .inl (.inl h0)⟩, oms_run os r e1 fun g' P' Pv us H' s rs r1 n1 => ?_⟩
      have rp := RepAs.reps he rs
      obtain ⟨a, vs, Px, P2, ev, ha, hz, hx, hxa, hp, h2a, hx2, go⟩ := r1.change e2
      rw [ev0] at ev; cases ev
      have pva : ¬ Pv a0 := fun z => n1 a0 ((hp a0).mpr (.inl (.inl rfl))) z
      have dxv : Disj Px Pv := fun b q z => n1 b ((hp b).mpr (.inl (.inr q))) z
      refine hR g' H' xs vs Px a0 ds us Pv r' ys Q r1.zd ha hz hx hxa rp pva dxv e3 fun v ws Pr Py hy hr' dyr sub => ?_
      have nya : ¬ Py a0 := fun z => (sub a0 (.inl z)).elim hxa pva
      have r2 := go ws ys Py hy nya fun b q z => (sub b (.inl q)).elim (fun q => hx2 b q z) fun q => n1 b ((hp b).mpr (.inr z)) q
      refine k g' _ Pr v _ ?_ hr' r2 fun b q z => ?_
      · refine s.trans ((Step.upd (g := g') (a := a0) (P' := fun b => b = a0) (by rw [ha]; simp) fun b q => .inl q).frame (R := fun b => P' b ∨ Pv b) |>.sub (fun b q => ?_) fun b q => ?_)
        · exact q.elim (fun q => .inl ((hp b).mpr (.inl (.inl q)))) id
        · rcases q with (q | q) | q
          · exact q.elim .inl fun q => .inr ((sub b (.inl q)).elim (fun q => .inl ((hp b).mpr (.inl (.inr q)))) .inr)
          · exact .inr (.inl ((hp b).mpr (.inr q)))
          · exact .inr ((sub b (.inr q)).elim (fun q => .inl ((hp b).mpr (.inl (.inr q)))) .inr)
      · rcases q with (q | q) | q
        · subst q; exact (sub b (.inr z)).elim hxa pva
        · exact dyr b q z
        · exact (sub b (.inr z)).elim (fun z => hx2 b z q) fun z => n1 b ((hp b).mpr (.inr q)) z
    · cases e
  · cases e
def muAppend (xs ds : List Dt) : Option (Dt × List Dt) := match ds with | [d] => if xs.length ≤ 1000000 then some (.non, xs ++ [d]) else none | _ => none
def muPop (xs ds : List Dt) : Option (Dt × List Dt) := match ds, xs.getLast? with | [], some d => some (d, xs.dropLast) | _, _ => none
def muExtend (xs ds : List Dt) : Option (Dt × List Dt) := match ds with | [.lst _ ys] => if xs.length + ys.length ≤ 1000000 then bif cps ys then some (.non, xs ++ ys) else none else none | _ => none
def muClear (_xs ds : List Dt) : Option (Dt × List Dt) := match ds with | [] => some (.non, []) | _ => none
theorem rep_non_i {g : G} : Rep K g H .non .non nop := by unfold Rep; exact ⟨rfl, fun _ z => z⟩
theorem mu_append : MutR K muAppend rAppend := by
  intro g H xs vs Px a ds us Pv r ys Q zd ha hz hx hxa hd hda dj e k
  unfold muAppend at e
  split at e
  · split at e
    · rename_i d hl
      simp only [Option.some.injEq, Prod.mk.injEq] at e
      obtain ⟨rfl, rfl⟩ := e
      unfold Reps at hd
      obtain ⟨v, rr, P1, P2, rfl, h1, h2, h3, h4⟩ := hd
      unfold Reps at h2
      obtain ⟨rfl, h2⟩ := h2
      refine ⟨a, vs, v, rfl, rfl, ha, Nat.lt_of_le_of_lt (by rw [← hx.len]; exact hl) (by decide), ?_⟩
      have st : Step g (fun b => b = a) H g nop (upd H a (.lst (vs ++ [v]))) := Step.upd (by rw [ha]; simp) fun _ z => z.elim
      have oka : FpOk g H fun b => b = a := fun b q => by subst q; exact ⟨by rw [ha]; trivial, hz⟩
      have hx' := hx.held st oka fun b q z => hxa (z ▸ q)
      have h1' := h1.held st oka fun b q z => hda ((h4 a).mpr (.inl (z ▸ q)))
      refine k .non (vs ++ [v]) nop (fun b => Px b ∨ P1 b) ?_ rep_non_i (fun _ _ z => z) fun b q => q.elim (fun q => q.elim .inl fun q => .inr ((h4 b).mpr (.inl q))) False.elim
      refine (Reps.app hx' (Reps.cons h1' Reps.nil fun _ _ z => z) fun b q z => z.elim (fun z => dj b q ((h4 b).mpr (.inl z))) id).iff fun b => ?_
      exact ⟨fun z => z.elim .inl fun z => .inr (.inl z), fun z => z.elim .inl fun z => z.elim .inr False.elim⟩
    · cases e
  · cases e
theorem Reps.split : ∀ {xs ys : List Dt} {vs : List V} {g : G} {P : Fp}, Reps K g H (xs ++ ys) vs P → ∃ us ws P1 P2, vs = us ++ ws ∧ Reps K g H xs us P1 ∧ Reps K g H ys ws P2 ∧ Disj P1 P2 ∧ ∀ a, P a ↔ P1 a ∨ P2 a
  | [], ys, vs, g, P, h => ⟨[], vs, nop, P, rfl, Reps.nil, h, fun _ z => z.elim, fun a => ⟨.inr, fun z => z.elim False.elim id⟩⟩
  | x :: xs, ys, vs, g, P, h => by
    have h' : Reps K g H (x :: (xs ++ ys)) vs P := h
    unfold Reps at h'
    obtain ⟨v, r, P1, P2, rfl, h1, h2, h3, h4⟩ := h'
    obtain ⟨us, ws, Q1, Q2, rfl, k1, k2, k3, k4⟩ := Reps.split h2
    refine ⟨v :: us, ws, fun a => P1 a ∨ Q1 a, Q2, rfl, Reps.cons h1 k1 fun a q z => h3 a q ((k4 a).mpr (.inl z)), k2, fun a q z => q.elim (fun q => h3 a q ((k4 a).mpr (.inr z))) fun q => k3 a q z, fun a => ?_⟩
    rw [h4 a, k4 a]; exact or_assoc.symm
theorem mu_pop : MutR K muPop rPop := by
  intro g H xs vs Px a ds us Pv r ys Q zd ha hz hx hxa hd hda dj e k
  unfold muPop at e
  split at e
  · rename_i d e1
    simp only [Option.some.injEq, Prod.mk.injEq] at e
    obtain ⟨rfl, rfl⟩ := e
    unfold Reps at hd
    obtain ⟨rfl, _⟩ := hd
    have ex : xs = xs.dropLast ++ [d] := by
      have := List.getLast?_eq_some_iff.mp e1
      obtain ⟨zs, rfl⟩ := this
      simp
    rw [ex] at hx
    obtain ⟨us, ws, P1, P2, rfl, k1, k2, k3, k4⟩ := Reps.split hx
    unfold Reps at k2
    obtain ⟨v, rr, Q1, Q2, rfl, l1, l2, l3, l4⟩ := k2
    unfold Reps at l2
    obtain ⟨rfl, l2⟩ := l2
    refine ⟨a, us ++ [v], v, rfl, rfl, ha, by simp, ?_⟩
    have ed : (us ++ [v]).dropLast = us := by simp
    rw [ed]
    have st : Step g (fun b => b = a) H g nop (upd H a (.lst us)) := Step.upd (by rw [ha]; simp) fun _ z => z.elim
    have oka : FpOk g H fun b => b = a := fun b q => by subst q; exact ⟨by rw [ha]; trivial, hz⟩
    have in1 : ∀ b, P1 b → Px b := fun b q => (k4 b).mpr (.inl q)
    have in2 : ∀ b, Q1 b → Px b := fun b q => (k4 b).mpr (.inr ((l4 b).mpr (.inl q)))
    exact k v us Q1 P1 (k1.held st oka fun b q z => hxa (z ▸ in1 b q)) (l1.held st oka fun b q z => hxa (z ▸ in2 b q)) (fun b q z => k3 b q ((l4 b).mpr (.inl z))) fun b q => .inl (q.elim (in1 b) (in2 b))
  · cases e
theorem mu_extend : MutR K muExtend rExtend := by
  intro g H xs vs Px a ds us Pv r ys Q zd ha hz hx hxa hd hda dj e k
  unfold muExtend at e
  split at e
  · rename_i o zs
    split at e
    · rename_i hl
      cases c : cps zs with
      | false => rw [c] at e; cases e
      | true =>
        rw [c, cond_true] at e
        simp only [Option.some.injEq, Prod.mk.injEq] at e
        obtain ⟨rfl, rfl⟩ := e
        unfold Reps at hd
        obtain ⟨v, rr, P1, P2, rfl, h1, h2, h3, h4⟩ := hd
        unfold Reps at h2
        obtain ⟨rfl, h2⟩ := h2
        obtain ⟨b, ws, P1', rfl, hb, hw⟩ := h1.lst
        refine ⟨a, b, vs, ws, rfl, rfl, ha, hb, by rw [← hx.len, ← hw.len]; exact Nat.le_trans hl (by decide), ?_⟩
        have st : Step g (fun b => b = a) H g nop (upd H a (.lst (vs ++ ws))) := Step.upd (by rw [ha]; simp) fun _ z => z.elim
        have oka : FpOk g H fun b => b = a := fun b q => by subst q; exact ⟨by rw [ha]; trivial, hz⟩
        have hx' := hx.held st oka fun b q z => hxa (z ▸ q)
        have hw' := (hw.cp c).held st oka fun b q z => q.elim
        refine k .non (vs ++ ws) nop Px ((Reps.app hx' hw' fun _ _ z => z).iff fun b => ⟨.inl, fun z => z.elim id False.elim⟩) rep_non_i (fun _ _ z => z) fun b q => q.elim .inl False.elim
    · cases e
  · cases e
end
section
variable {X : Cx} {o e : Expr} {es : List Expr} {i : Nat} {name : Str} {apos cpos : Pos} {id : String} {p : Mu} {R : V → List V → Hp → VK → Prop} {os : List Om}
theorem q_mut (slot : Slot "list" name id) (hty : typeOf (.builtin id) = pure (.type "method_descriptor")) (hm : MtR X id R) (hR : MutR X.K p R) (ho : PE X o (tVar i)) (ha : QA X (e :: es) os) (hev : evd os = true := by rfl)
    (hbase : attributeBase o name X.env (eval o X.env) = eval o X.env := by rfl)
    (hfew : ((backTo cpos (starEach (e :: es) X.env)).all (fun x => !x.1) && (backToKw cpos (keywordEach [] X.env)).all (fun x => x.1.isSome)
      && decide ((e :: es).length + ([] : List Keyword).length + (if ([] : List Keyword).isEmpty then 0 else 1) < 30)) = true := by rfl)
    (hline : (apos.endLine == cpos.line) = true := by rfl) (hs : starEach (e :: es) X.env = (false, eval e X.env) :: starEach es X.env := by rfl) (hplain : (backTo cpos (starEach es X.env)).any (·.1) = false := by rfl) : QE X (.Call (.Attribute o name apos) (e :: es) [] cpos) (evMut i p os) := ⟨PE.imp (pe_bmK X.K PySem.F.plainAttrs_list slot hty hm ho ha.h hbase hfew hline hs hplain) fun _ _ _ h => mut_run hR hev h⟩
theorem q_mut0 (slot : Slot "list" name id) (hty : typeOf (.builtin id) = pure (.type "method_descriptor")) (hm : MtR X id R) (hR : MutR X.K p R) (ho : PE X o (tVar i))
    (hbase : attributeBase o name X.env (eval o X.env) = eval o X.env := by rfl) (hline : (apos.endLine == cpos.line) = true := by rfl) : QE X (.Call (.Attribute o name apos) [] [] cpos) (evMut i p []) := ⟨PE.imp (pe_bm0K X.K PySem.F.plainAttrs_list slot hty hm ho hbase hline) fun _ _ _ h => mut_run (os := []) hR rfl h⟩
end
def evSetIx (i : Nat) (f : Ev Dt) (o : Om) (m : M) : Option (Fl × M) := do
  let (d, m1) ← f m
  let _ ← (m1.ρ[i]?).join
  let (ks, m2) ← evOms [o] m1
  match ks, m2.ρ[i]? with
  | [.int k], some (some (.lst true xs)) => do
    let j ← ixN xs.length k
    some (.nx, m2.set i (some (.lst true (xs.set j d))))
  | _, _ => none
theorem Reps.set {K : PySem.W.Frag} {g : G} {H : Hp} : ∀ {xs : List Dt} {vs : List V} {P Pd : Fp} {d : Dt} {v : V} (j : Nat), Reps K g H xs vs P → Rep K g H d v Pd → Disj P Pd → ∃ P', Reps K g H (xs.set j d) (vs.set j v) P' ∧ ∀ a, P' a → P a ∨ Pd a
  | [], vs, P, Pd, d, v, j, h, hd, n => by
    unfold Reps at h
    obtain ⟨rfl, h⟩ := h
    exact ⟨nop, Reps.nil, fun _ z => z.elim⟩
  | x :: xs, vs, P, Pd, d, v, j, h, hd, n => by
    unfold Reps at h
    obtain ⟨u, r, P1, P2, rfl, h1, h2, h3, h4⟩ := h
    cases j with
    | zero => exact ⟨_, Reps.cons hd h2 fun a q z => n a ((h4 a).mpr (.inr z)) q, fun a q => q.elim .inr fun q => .inl ((h4 a).mpr (.inr q))⟩
    | succ j =>
      obtain ⟨P', k, s⟩ := Reps.set j h2 hd fun a q z => n a ((h4 a).mpr (.inr q)) z
      refine ⟨_, Reps.cons h1 k fun a q z => (s a z).elim (fun z => h3 a q z) fun z => n a ((h4 a).mpr (.inl q)) z, fun a q => q.elim (fun q => .inl ((h4 a).mpr (.inl q))) fun q => (s a q).elim (fun q => .inl ((h4 a).mpr (.inr q))) .inr⟩
theorem setix_run {K : PySem.W.Frag} {io : List Nat} {i : Nat} {f : Ev Dt} {o : Om} {D : Ends} {σ : St} {H : Hp} (h : tqS K io (evSetIx i f o) D σ H) : tAsg (tq K f) (gSub (tVar i) (tOm K o) rSetL) D σ H := by
  obtain ⟨g, m, P, r, fl, m', e, k⟩ := h
  simp only [evSetIx, Option.bind_eq_bind, Option.bind_eq_some_iff, Prod.exists] at e
  obtain ⟨d, m1, e1, d0, e0, ks, m2, e2, e⟩ := e
  refine ⟨g, m, P, r, d, m1, e1, fun g1 P1 Pd v H1 s1 rv r1 n1 => ?_⟩
  obtain ⟨v0, P0, ev0, rv0, _⟩ := r1.see (join_some e0)
  refine ⟨v0, ev0, ?_⟩
  split at e
  · rename_i kk xs e3
    simp only [Option.bind_eq_some_iff, Option.some.injEq, Prod.mk.injEq] at e
    obtain ⟨j, ej, rfl, rfl⟩ := e
    refine om_run r1 e2 fun g2 P2 Pv Pr vk H2 s2 rk r2 n2 => ?_
    rw [rep_int rk]
    obtain ⟨a, vs, Px, P3, ev, ha, hz, hx, hxa, hp, h2a, hx2, go⟩ := r2.change e3
    rw [ev0] at ev; cases ev
    have rv2 := rv.held s2 r1.fpOk fun a q z => n1 a z q
    have dn : ∀ b, Pd b → ¬ (P2 b ∨ Pv b) := fun b q z => by
      rcases s2.nw b z with z | z
      · exact n1 b z q
      · have := (rv.fpOk b q).1; rw [z] at this; exact this
    refine ⟨a, vs, kk, j, rfl, rfl, ha, by rw [← hx.len]; exact ej, ?_⟩
    have st : Step g2 (fun b => b = a) H2 g2 nop (upd H2 a (.lst (vs.set j v))) := Step.upd (by rw [ha]; simp) fun _ z => z.elim
    have oka : FpOk g2 H2 fun b => b = a := fun b q => by subst q; exact ⟨by rw [ha]; trivial, hz⟩
    have pa : P2 a := (hp a).mpr (.inl (.inl rfl))
    obtain ⟨Py, hy, sy⟩ := Reps.set j (hx.held st oka fun b q z => hxa (z ▸ q)) (rv2.held st oka fun b q z => dn b q (.inl (z ▸ pa))) fun b q z => dn b z (.inl ((hp b).mpr (.inl (.inr q))))
    have r3 := go (vs.set j v) (xs.set j d) Py hy (fun z => (sy a z).elim hxa fun z => dn a z (.inl pa)) fun b q z => (sy b q).elim (fun q => hx2 b q z) fun q => dn b q (.inl ((hp b).mpr (.inr z)))
    refine k g2 _ σ _ (s1.trans ((s2.sub (Q' := P2) (fun _ q => q) fun _ q => .inl q).frame (R := Pd) |>.trans ?_)) Io.refl r3
    refine ((Step.upd (g := g2) (a := a) (P' := fun b => b = a) (by rw [ha]; simp) fun b q => .inl q).frame (R := fun b => P2 b ∨ Pd b)).sub (fun b q => q.elim (fun q => .inl (q ▸ pa)) id) fun b q => ?_
    rcases q with (q | q) | q
    · exact .inl q
    · exact .inr ((sy b q).elim (fun q => .inl ((hp b).mpr (.inl (.inr q)))) .inr)
    · exact .inr (.inl ((hp b).mpr (.inr q)))
  · cases e
theorem qs_setIx {X : Cx} {io : List Nat} {x k e : Expr} {pos tpos : Pos} {i : Nat} {f : Ev Dt} {o : Om} (he : QE X e f) (hx : PE X x (tVar i)) (hk : QO X k o)
    (ha : ∀ v, assign (.Subscript x k tpos) X.env v = (do
      let ov ← holding [v] (eval x X.env)
      let iv ← holding [v, ov] (eval k X.env)
      standAt tpos
      holding [v, ov, iv] (setItem ov iv v)
      release [v, ov, iv] []) := by intro _; rfl)
    (hs : swapsWithSole [.Subscript x k tpos] e pos.line X.env = pure false := by rfl) (hw : swappedStores [.Subscript x k tpos] e X.env = pure none := by rfl)
    (h1 : (assignEach [.Subscript x k tpos] X.env).map (·.2) = [assign (.Subscript x k tpos) X.env] := by rfl) : QS X io (.Assign [.Subscript x k tpos] e pos) (evSetIx i f o) := ⟨PS.imp (ps_asg he.h (pg_sub hx hk.h set_any ha) hs hw h1) fun _ _ _ h => setix_run h⟩
end Q
namespace Q
open PySem L2
section
variable {K : PySem.W.Frag} {g : G} {H : Hp}
theorem RA.one {d : Dt} {vs : List V} (h : RA K g H [d] vs) : ∃ v P, vs = [v] ∧ Rep K g H d v P := by
  unfold RA at h
  obtain ⟨v, r, P, rfl, h1, h2⟩ := h
  unfold RA at h2
  subst h2
  exact ⟨v, P, rfl, h1⟩
theorem RA.two {d e : Dt} {vs : List V} (h : RA K g H [d, e] vs) : ∃ v P w R, vs = [v, w] ∧ Rep K g H d v P ∧ Rep K g H e w R := by
  unfold RA at h
  obtain ⟨v, r, P, rfl, h1, h2⟩ := h
  obtain ⟨w, R, rfl, h3⟩ := RA.one h2
  exact ⟨v, P, w, R, rfl, h1, h3⟩
theorem New.int (i : Int) : New K g H (.int i) (.int i) H := New.old (by unfold Rep; exact ⟨rfl, fun _ z => z⟩)
theorem New.bl (b : Bool) : New K g H (.bl b) (.bl b) H := New.old rep_bl_i
theorem New.str (l : List Nat) : New K g H (.str l) (.str (tx l)) H := New.old (by unfold Rep; exact ⟨rfl, fun _ z => z⟩)
theorem New.lst {xs : List Dt} {vs : List V} {p : Addr} (zd : Zd g H) (hp : H p = none) (h : Reps K g H xs vs nop) : New K g H (.lst true xs) (.ref p) (upd H p (.lst vs)) := by
  have sm := same_new hp (.lst vs)
  refine ⟨sm, fun b => b = p, ?_, fun b q => q ▸ hp⟩
  have h2 := h.held (Step.same (g := g) (P := nop) sm) (fun _ z => z.elim) fun _ z => z.elim
  unfold Rep
  exact ⟨p, vs, nop, rfl, ⟨upd_same, fun z => zd p z hp⟩, h2, fun z => z, fun _ _ z => z, fun b => ⟨fun z => .inl ⟨rfl, z⟩, fun z => z.elim (fun z => z.2) False.elim⟩⟩
theorem New.tup {xs : List Dt} {vs : List V} {p : Addr} {H' : Hp} (sm : Same H H') (hp : H' p = some (.tup vs)) (h : Reps K g H xs vs nop) : New K g H (.tup xs) (.ref p) H' := by
  refine ⟨sm, nop, ?_, fun b q => q.elim⟩
  have h2 := h.held (Step.same (g := g) (P := nop) sm) (fun _ z => z.elim) fun _ z => z.elim
  unfold Rep
  exact ⟨p, vs, rfl, hp, h2⟩
theorem New.tupNew {xs : List Dt} {vs : List V} {p : Addr} (hp : H p = none) (h : Reps K g H xs vs nop) : New K g H (.tup xs) (.ref p) (upd H p (.tup vs)) := New.tup (same_new hp _) upd_same h
def pInt2 (C : Int → Int → Bool) (f : Int → Int → Int) (ds : List Dt) : Option Dt := match ds with | [.int i, .int j] => bif C i j then some (.int (f i j)) else none | _ => none
def pCmp2 (f : Int → Int → Bool) (ds : List Dt) : Option Dt := match ds with | [.int i, .int j] => some (.bl (f i j)) | _ => none
theorem pr_int2 {C : Int → Int → Bool} {C' : Int → Int → Prop} {f : Int → Int → Int} (hc : ∀ i j, C i j = true → C' i j) : PrimR K (pInt2 C f) (L2r (rI C' fun i j => .int (f i j))) := by
  intro g H ds vs d Q zd ra e k
  unfold pInt2 at e
  split at e
  · rename_i i j
    cases c : C i j with
    | false => rw [c] at e; cases e
    | true =>
      rw [c, cond_true] at e
      cases e
      obtain ⟨v, P, w, R, rfl, h1, h2⟩ := ra.two
      rw [rep_int h1, rep_int h2]
      exact ⟨i, j, rfl, rfl, hc i j c, k _ _ (New.int _)⟩
  · cases e
theorem pr_int0 {f : Int → Int → Int} : PrimR K (pInt2 (fun _ _ => true) f) (L2r (rI0 fun i j => .int (f i j))) := by
  intro g H ds vs d Q zd ra e k
  unfold pInt2 at e
  split at e
  · rename_i i j
    rw [cond_true] at e
    cases e
    obtain ⟨v, P, w, R, rfl, h1, h2⟩ := ra.two
    rw [rep_int h1, rep_int h2]
    exact ⟨i, j, rfl, rfl, k _ _ (New.int _)⟩
  · cases e
theorem pr_cmp2 {f : Int → Int → Bool} : PrimR K (pCmp2 f) (L2r (rI0 fun i j => .bl (f i j))) := by
  intro g H ds vs d Q zd ra e k
  unfold pCmp2 at e
  split at e
  · rename_i i j
    cases e
    obtain ⟨v, P, w, R, rfl, h1, h2⟩ := ra.two
    rw [rep_int h1, rep_int h2]
    exact ⟨i, j, rfl, rfl, k _ _ (New.bl _)⟩
  · cases e
abbrev pSub := pInt2 (fun _ _ => true) fun i j => i - j
abbrev pMod := pInt2 (fun _ j => decide (0 < j)) fun i j => i % j
abbrev pDiv := pInt2 (fun _ j => decide (0 < j) && decide (j < 1073741824)) fun i j => i / j
abbrev pPow := pInt2 (fun i j => decide (0 ≤ j) && decide (j ≤ 1000000) && decide (i.natAbs < 2 ^ 64)) fun i j => i ^ j.toNat
abbrev pLt := pCmp2 fun i j => decide (i < j)
abbrev pGt := pCmp2 fun i j => decide (j < i)
abbrev pGe := pCmp2 fun i j => decide (j ≤ i)
theorem pr_sub : PrimR K pSub (L2r (rI0 fun i j => .int (i - j))) := pr_int0
theorem pr_mod : PrimR K pMod (L2r (rI (fun _ j => 0 < j) fun i j => .int (i % j))) := pr_int2 fun _ _ h => of_decide_eq_true h
theorem pr_div : PrimR K pDiv (L2r (rI CDiv fun i j => .int (i / j))) := pr_int2 fun _ _ h => by rw [Bool.and_eq_true, decide_eq_true_eq, decide_eq_true_eq] at h; exact h
theorem pr_pow : PrimR K pPow (L2r (rI CPow fun i j => .int (i ^ j.toNat))) := pr_int2 fun _ _ h => by
  rw [Bool.and_eq_true, Bool.and_eq_true, decide_eq_true_eq, decide_eq_true_eq, decide_eq_true_eq] at h
  exact ⟨h.1.1, h.1.2, h.2⟩
def pNeg (ds : List Dt) : Option Dt := match ds with | [.int i] => some (.int (-i)) | _ => none
theorem pr_neg : PrimR K pNeg (L1r (rU fun i => .int (-i))) := by
  intro g H ds vs d Q zd ra e k
  unfold pNeg at e
  split at e
  · rename_i i
    cases e
    obtain ⟨v, P, rfl, h1⟩ := ra.one
    rw [rep_int h1]
    exact ⟨i, rfl, k _ _ (New.int _)⟩
  · cases e
def pAdd (ds : List Dt) : Option Dt := match ds with
  | [.int i, .int j] => some (.int (i + j))
  | [.str a, .str b] => if a.length + b.length ≤ 1000000 then some (.str (a ++ b)) else none
  | [.lst _ xs, .lst _ ys] => if xs.length + ys.length ≤ 1000000 then bif cps xs && cps ys then some (.lst true (xs ++ ys)) else none else none
  | [.tup xs, .tup ys] => if xs.length + ys.length ≤ 1000000 then bif cps xs && cps ys then some (.tup (xs ++ ys)) else none else none
  | _ => none
theorem pr_add : PrimR K pAdd (L2r (rAddB K)) := by
  intro g H ds vs d Q zd ra e k
  unfold pAdd at e
  split at e
  · rename_i i j
    cases e
    obtain ⟨v, P, w, R, rfl, h1, h2⟩ := ra.two
    rw [rep_int h1, rep_int h2]
    exact addB_int (k _ _ (New.int _))
  · rename_i a b
    split at e
    · rename_i hl
      cases e
      obtain ⟨v, P, w, R, rfl, h1, h2⟩ := ra.two
      rw [rep_str h1, rep_str h2]
      refine addB_str (by rw [tx_len, tx_len]; exact hl) ?_
      rw [tx_app]
      exact k _ _ (New.str _)
    · cases e
  · rename_i o1 xs o2 ys
    split at e
    · rename_i hl
      cases c : cps xs && cps ys with
      | false => rw [c] at e; cases e
      | true =>
        rw [c, cond_true] at e
        cases e
        rw [Bool.and_eq_true] at c
        obtain ⟨v, P, w, R, rfl, h1, h2⟩ := ra.two
        obtain ⟨a, us, P1, rfl, ha, hx⟩ := h1.lst
        obtain ⟨b, ws, P2, rfl, hb, hy⟩ := h2.lst
        refine addB_lst ha hb (by rw [← hx.len, ← hy.len]; exact hl) fun p hp => k _ _ (New.lst zd hp ?_)
        exact (Reps.app (hx.cp c.1) (hy.cp c.2) fun _ z => z.elim).iff fun a => ⟨fun z => z.elim, fun z => z.elim id id⟩
    · cases e
  · rename_i xs ys
    split at e
    · rename_i hl
      cases c : cps xs && cps ys with
      | false => rw [c] at e; cases e
      | true =>
        rw [c, cond_true] at e
        cases e
        rw [Bool.and_eq_true] at c
        obtain ⟨v, P, w, R, rfl, h1, h2⟩ := ra.two
        obtain ⟨a, us, rfl, ha', hx⟩ := h1.tupH
        obtain ⟨b, ws, rfl, hb', hy⟩ := h2.tupH
        have ha : SqT K H a us := .inl (.inl ha')
        have hb : SqT K H b ws := .inl (.inl hb')
        have al : Reps K g H (xs ++ ys) (us ++ ws) nop := (Reps.app (hx.cp c.1) (hy.cp c.2) fun _ z => z.elim).iff fun a => ⟨fun z => z.elim, fun z => z.elim id id⟩
        by_cases hu : us = []
        · subst hu
          refine .inr ⟨a, b, ws, rfl, rfl, ha, hb, k _ _ ⟨fun _ _ q => q, nop, ?_, fun _ z => z.elim⟩⟩
          unfold Rep
          exact ⟨b, ws, rfl, hb', al⟩
        · refine .inl (.inr (.inr (.inr ⟨a, b, us, ws, rfl, rfl, ha, hb, hu, by rw [← hx.len, ← hy.len]; exact Nat.le_trans hl (by decide), fun hw => ?_, fun _ p hp => k _ _ (New.tupNew hp al)⟩)))
          subst hw
          refine k _ _ ⟨fun _ _ q => q, nop, ?_, fun _ z => z.elim⟩
          rw [List.append_nil] at al
          unfold Rep
          exact ⟨a, us, rfl, ha', al⟩
    · cases e
  · cases e
def big (i : Int) : Bool := decide (-(2 ^ 64) < i) && decide (i < 2 ^ 64)
def pMul (ds : List Dt) : Option Dt := match ds with
  | [.int i, .int j] => bif big i || big j then some (.int (i * j)) else none
  | [.lst _ xs, .int k] => if xs.length * k.toNat ≤ 1000000 ∧ k < 1000000 ∧ -1000000 < k then bif cps xs then some (.lst true (List.replicate k.toNat xs).flatten) else none else none
  | _ => none
theorem op_mulQ {X : Cx} : OpR X (binaryOp .Mult) (fun x y H Q => (rI CMul fun i j => .int (i * j)) x y H Q ∨ rRep x y H Q) := op_mul.or op_rep
theorem Reps.flat {xs : List Dt} {vs : List V} (h : Reps K g H xs vs nop) : ∀ n, Reps K g H (List.replicate n xs).flatten (List.replicate n vs).flatten nop
  | 0 => by simpa using Reps.nil
  | n + 1 => by
    rw [List.replicate_succ, List.replicate_succ, List.flatten_cons, List.flatten_cons]
    exact (Reps.app h (Reps.flat h n) fun _ z => z.elim).iff fun a => ⟨fun z => z.elim, fun z => z.elim id id⟩
theorem pr_mul : PrimR K pMul (L2r (fun x y H Q => (rI CMul fun i j => .int (i * j)) x y H Q ∨ rRep x y H Q)) := by
  intro g H ds vs d Q zd ra e k
  unfold pMul at e
  split at e
  · rename_i i j
    cases c : big i || big j with
    | false => rw [c] at e; cases e
    | true =>
      rw [c, cond_true] at e
      cases e
      obtain ⟨v, P, w, R, rfl, h1, h2⟩ := ra.two
      rw [rep_int h1, rep_int h2]
      refine .inl ⟨i, j, rfl, rfl, ?_, k _ _ (New.int _)⟩
      rw [Bool.or_eq_true] at c
      unfold big at c
      rw [Bool.and_eq_true, Bool.and_eq_true, decide_eq_true_eq, decide_eq_true_eq, decide_eq_true_eq, decide_eq_true_eq] at c
      exact c
  · rename_i o xs n
    split at e
    · rename_i hl
      cases c : cps xs with
      | false => rw [c] at e; cases e
      | true =>
        rw [c, cond_true] at e
        cases e
        obtain ⟨v, P, w, R, rfl, h1, h2⟩ := ra.two
        obtain ⟨a, us, P1, rfl, ha, hx⟩ := h1.lst
        rw [rep_int h2]
        refine .inr ⟨a, n, us, rfl, rfl, ha, by omega, by omega, by rw [← hx.len]; exact Nat.le_trans hl.1 (by decide), fun p hp => k _ _ (New.lst zd hp (Reps.flat (hx.cp c) _))⟩
    · cases e
  · cases e
def pLen (ds : List Dt) : Option Dt := match ds with
  | [.str l] => if l.length ≤ 1000000 then some (.int l.length) else none
  | [.lst _ xs] => some (.int xs.length)
  | [.tup xs] => some (.int xs.length)
  | [.scr ns] => some (.int ns.length)
  | _ => none
theorem pr_len : PrimR K pLen (rLen K) := by
  intro g H ds vs d Q zd ra e k
  unfold pLen at e
  split at e
  · split at e
    · rename_i l hl
      cases e
      obtain ⟨v, P, rfl, h1⟩ := ra.one
      rw [rep_str h1]
      refine len_str_i (by rw [tx_len]; exact hl) ?_
      rw [tx_len]
      exact k _ _ (New.int _)
    · cases e
  · rename_i o xs
    cases e
    obtain ⟨v, P, rfl, h1⟩ := ra.one
    obtain ⟨a, us, P1, rfl, ha, hx⟩ := h1.lst
    refine len_lst ha ?_
    rw [← hx.len]
    exact k _ _ (New.int _)
  · rename_i xs
    cases e
    obtain ⟨v, P, rfl, h1⟩ := ra.one
    obtain ⟨a, us, rfl, ha, hx⟩ := h1.tup
    refine ⟨_, _, rfl, .inr ⟨us, ha, rfl⟩, ?_⟩
    rw [← hx.len]
    exact k _ _ (New.int _)
  · rename_i ns
    cases e
    obtain ⟨v, P, rfl, h1⟩ := ra.one
    obtain ⟨a, rfl, ha⟩ := h1.scr
    refine len_sq ha ?_
    rw [List.length_map]
    exact k _ _ (New.int _)
  · cases e
def cpo (o : Option Dt) : Option Dt := match o with | some d => bif d.cp then some d else none | none => none
def pIdx (ds : List Dt) : Option Dt := match ds with
  | [.lst _ xs, .int i] => cpo (atI xs i)
  | [.tup xs, .int i] => cpo (atI xs i)
  | [.scr ns, .int i] => (atI ns i).map .int
  | [.str l, .int i] => if l.length ≤ 1000000 then (atI l i).map fun c => .str [c] else none
  | _ => none
theorem atI_rep {xs : List Dt} {vs : List V} {P : Fp} {i : Int} {d : Dt} (h : Reps K g H xs vs P) (e : atI xs i = some d) : ∃ v R, atI vs i = some v ∧ Rep K g H d v R := by
  unfold atI at e ⊢
  rw [h.len] at e
  cases q : ixN vs.length i with
  | none => rw [q] at e; cases e
  | some j =>
    rw [q] at e
    obtain ⟨v, R, e1, e2, _⟩ := h.get e
    exact ⟨v, R, e1, e2⟩
theorem cpo_some {o : Option Dt} {d : Dt} (h : cpo o = some d) : o = some d ∧ d.cp = true := by
  unfold cpo at h
  cases o with
  | none => cases h
  | some x =>
    simp only at h
    cases c : x.cp with
    | false => rw [c] at h; cases h
    | true => rw [c, cond_true] at h; cases h; exact ⟨rfl, c⟩
theorem atI_map {α β : Type} {f : α → β} {xs : List α} {i : Int} : atI (xs.map f) i = (atI xs i).map f := by
  unfold atI
  rw [List.length_map]
  cases ixN xs.length i with
  | none => rfl
  | some j => show (xs.map f)[j]? = _; rw [List.getElem?_map]; rfl
theorem pr_idx : PrimR K pIdx (L2r (rIx K)) := by
  intro g H ds vs d Q zd ra e k
  unfold pIdx at e
  split at e
  · obtain ⟨e1, c⟩ := cpo_some e
    obtain ⟨v, P, w, R, rfl, h1, h2⟩ := ra.two
    obtain ⟨a, us, P1, rfl, ha, hx⟩ := h1.lst
    rw [rep_int h2]
    obtain ⟨u, R2, e2, h3⟩ := atI_rep hx e1
    exact rix_lst ha e2 (k _ _ (New.old (h3.cp c)))
  · obtain ⟨e1, c⟩ := cpo_some e
    obtain ⟨v, P, w, R, rfl, h1, h2⟩ := ra.two
    obtain ⟨a, us, rfl, ha, hx⟩ := h1.tup
    rw [rep_int h2]
    obtain ⟨u, R2, e2, h3⟩ := atI_rep hx e1
    exact .inr (.inl ⟨a, us, _, u, rfl, rfl, ha, e2, k _ _ (New.old (h3.cp c))⟩)
  · rename_i ns i
    obtain ⟨v, P, w, R, rfl, h1, h2⟩ := ra.two
    obtain ⟨a, rfl, ha⟩ := h1.scr
    rw [rep_int h2]
    cases q : atI ns i with
    | none => rw [q] at e; cases e
    | some j =>
      rw [q] at e
      cases e
      exact rix_sq ha (by rw [atI_map, q]; rfl) (k _ _ (New.int _))
  · rename_i l i
    split at e
    · rename_i hl
      obtain ⟨v, P, w, R, rfl, h1, h2⟩ := ra.two
      rw [rep_str h1, rep_int h2]
      cases q : atI l i with
      | none => rw [q] at e; cases e
      | some c =>
        rw [q] at e
        cases e
        exact rix_str (by rw [tx_len]; exact hl) (by rw [tx_list]; exact q) (k _ _ (New.str [c]))
    · cases e
  · cases e
def cutA {α : Type} (xs : List α) (lo hi : Option Int) : List α := (xs.drop (HT.sIx xs.length 0 lo)).take (HT.sIx xs.length xs.length hi - HT.sIx xs.length 0 lo)
theorem Reps.dropc : ∀ {xs : List Dt} {vs : List V} (n : Nat), Reps K g H xs vs nop → Reps K g H (xs.drop n) (vs.drop n) nop
  | xs, vs, 0, h => by simpa using h
  | [], vs, n + 1, h => by
    unfold Reps at h
    obtain ⟨rfl, _⟩ := h
    simpa using Reps.nil
  | x :: xs, vs, n + 1, h => by
    unfold Reps at h
    obtain ⟨v, r, P1, P2, rfl, h1, h2, h3, h4⟩ := h
    have : Reps K g H xs r nop := h2.iff fun a => ⟨fun z => z.elim, fun z => ((h4 a).mpr (.inr z)).elim⟩
    simpa using Reps.dropc n this
theorem Reps.takec : ∀ {xs : List Dt} {vs : List V} (n : Nat), Reps K g H xs vs nop → Reps K g H (xs.take n) (vs.take n) nop
  | xs, vs, 0, h => by simpa using Reps.nil
  | [], vs, n + 1, h => by
    unfold Reps at h
    obtain ⟨rfl, _⟩ := h
    simpa using Reps.nil
  | x :: xs, vs, n + 1, h => by
    unfold Reps at h
    obtain ⟨v, r, P1, P2, rfl, h1, h2, h3, h4⟩ := h
    have t : Reps K g H xs r nop := h2.iff fun a => ⟨fun z => z.elim, fun z => ((h4 a).mpr (.inr z)).elim⟩
    have t1 : Rep K g H x v nop := h1.iff fun a => ⟨fun z => z.elim, fun z => ((h4 a).mpr (.inl z)).elim⟩
    rw [List.take_succ_cons, List.take_succ_cons]
    exact (Reps.cons t1 (Reps.takec n t) fun _ z => z.elim).iff fun a => ⟨fun z => z.elim, fun z => z.elim id id⟩
theorem Reps.revc : ∀ {xs : List Dt} {vs : List V}, Reps K g H xs vs nop → Reps K g H xs.reverse vs.reverse nop
  | [], vs, h => by
    unfold Reps at h
    obtain ⟨rfl, _⟩ := h
    simpa using Reps.nil
  | x :: xs, vs, h => by
    unfold Reps at h
    obtain ⟨v, r, P1, P2, rfl, h1, h2, h3, h4⟩ := h
    have t : Reps K g H xs r nop := h2.iff fun a => ⟨fun z => z.elim, fun z => ((h4 a).mpr (.inr z)).elim⟩
    have t1 : Rep K g H x v nop := h1.iff fun a => ⟨fun z => z.elim, fun z => ((h4 a).mpr (.inl z)).elim⟩
    rw [List.reverse_cons, List.reverse_cons]
    exact (Reps.app (Reps.revc t) (Reps.cons t1 Reps.nil fun _ z => z.elim) fun _ z => z.elim).iff fun a => ⟨fun z => z.elim, fun z => z.elim id fun z => z.elim id id⟩
theorem Reps.cut {xs : List Dt} {vs : List V} (lo hi : Option Int) (h : Reps K g H xs vs nop) : Reps K g H (cutA xs lo hi) (cutV vs lo hi) nop := by
  unfold cutA cutV
  rw [h.len]
  exact Reps.takec _ (Reps.dropc _ h)
def slD (lo hi : Option Int) : Dt → Option Dt
  | .str l => if l.length ≤ 1000000 then some (.str (cutN l lo hi)) else none
  | .lst _ xs => bif cps xs then some (.lst true (cutA xs lo hi)) else none
  | .tup xs => bif cps xs then some (.tup (cutA xs lo hi)) else none
  | .scr ns => some (.lst true ((cutA ns lo hi).map .int))
  | _ => none
theorem map_cut {α β : Type} (f : α → β) (xs : List α) (lo hi : Option Int) : (cutA xs lo hi).map f = cutA (xs.map f) lo hi := by
  unfold cutA
  rw [List.map_take, List.map_drop, List.length_map]
theorem Reps.ints : ∀ (ns : List Int), Reps K g H (ns.map .int) (ns.map V.int) nop
  | [] => Reps.nil
  | n :: ns => (Reps.cons (v := .int n) (by unfold Rep; exact ⟨rfl, fun _ z => z⟩) (Reps.ints ns) fun _ z => z.elim).iff fun a => ⟨fun z => z.elim, fun z => z.elim id id⟩
theorem slD_ok {lo hi : Option Int} {d r : Dt} {v : V} {P : Fp} {Q : VK} (zd : Zd g H) (h : Rep K g H d v P) (e : slD lo hi d = some r) (k : ∀ v H', New K g H r v H' → Q v H') : rSlB K v lo hi H Q := by
  cases d with
  | str l =>
    simp only [slD] at e
    split at e
    · rename_i hl
      cases e
      rw [rep_str h]
      refine slb_str (by rw [tx_len]; exact hl) ?_
      rw [tx_slice]
      exact k _ _ (New.str _)
    · cases e
  | lst o xs =>
    simp only [slD] at e
    cases c : cps xs with
    | false => rw [c] at e; cases e
    | true =>
      rw [c, cond_true] at e
      cases e
      obtain ⟨a, us, P1, rfl, ha, hx⟩ := h.lst
      exact slb_lst ha fun p hp => k _ _ (New.lst zd hp (Reps.cut lo hi (hx.cp c)))
  | tup xs =>
    simp only [slD] at e
    cases c : cps xs with
    | false => rw [c] at e; cases e
    | true =>
      rw [c, cond_true] at e
      cases e
      obtain ⟨a, us, rfl, ha', hx⟩ := h.tupH
      have ha : SqT K H a us := .inl (.inl ha')
      have al := Reps.cut lo hi (hx.cp c)
      by_cases w : HT.sIx us.length 0 lo = 0 ∧ HT.sIx us.length us.length hi = us.length
      · refine .inr ⟨a, us, rfl, ha, w, k _ _ ⟨fun _ _ q => q, nop, ?_, fun _ z => z.elim⟩⟩
        have ec : cutV us lo hi = us := by unfold cutV; rw [w.1, w.2]; simp
        rw [ec] at al
        unfold Rep
        exact ⟨a, us, rfl, ha', al⟩
      · exact .inl (.inr (.inr ⟨a, us, rfl, ha, w, fun p hp => k _ _ (New.tupNew hp al)⟩))
  | scr ns =>
    simp only [slD] at e
    cases e
    obtain ⟨a, rfl, ha⟩ := h.scr
    refine slb_sq ha fun p hp => k _ _ (New.lst zd hp ?_)
    rw [map_cut]
    exact Reps.cut lo hi (Reps.ints ns)
  | _ => simp [slD] at e
end
def evSl0 (o : Om) (m : M) : Option (Dt × M) := evPrim (fun ds => match ds with | [d] => slD none none d | _ => none) [o] m
def evSlL (o l : Om) (m : M) : Option (Dt × M) := evPrim (fun ds => match ds with | [d, .int i] => slD (some i) none d | _ => none) [o, l] m
def evSlH (o h : Om) (m : M) : Option (Dt × M) := evPrim (fun ds => match ds with | [d, .int i] => slD none (some i) d | _ => none) [o, h] m
open Classical in
noncomputable def evSlB (o l h : Om) (m : M) : Option (Dt × M) := do
  let (ds, m1) ← evOms [o, l] m
  let (hs, m2) ← evOms [h] m1
  match ds, hs with
  | [d, .int i], [.int j] => if m2 = m1 then (slD (some i) (some j) d).map fun r => (r, m1) else none
  | _, _ => none
theorem RepAs.held {K : PySem.W.Frag} {g g' : G} {H H' : Hp} {P P' : Fp} {ρ : List (Option Dt)} {σ : St} (s : Step g P H g' P' H') (ok : FpOk g H P) : ∀ {os : List Om} {ds : List Dt} {vs : List V} {Pv : Fp}, RepAs K g H ρ σ os ds vs Pv → Disj Pv P → RepAs K g' H' ρ σ os ds vs Pv
  | [], ds, vs, Pv, h, _ => by unfold RepAs at h ⊢; exact h
  | .ev f :: os, ds, vs, Pv, h, n => by
    unfold RepAs at h ⊢
    obtain ⟨d, dr, v, vr, P1, P2, e1, e2, h1, h2, h3, h4⟩ := h
    exact ⟨d, dr, v, vr, P1, P2, e1, e2, h1.held s ok fun a q z => n a ((h4 a).mpr (.inl q)) z, RepAs.held s ok h2 fun a q z => n a ((h4 a).mpr (.inr q)) z, h3, h4⟩
  | .rf i :: os, ds, vs, Pv, h, n => by
    unfold RepAs at h ⊢
    obtain ⟨d, dr, v, vr, e1, e2, h1, h2, h3⟩ := h
    exact ⟨d, dr, v, vr, e1, e2, h1, h2, RepAs.held s ok h3 n⟩
section
variable {X : Cx} {e l h : Expr} {oe ol oh : Om} {pos p2 : Pos}
theorem q_slL (he : QO X e oe) (hl : QO X l ol) : QE X (.Subscript e (.Slice (some l) none none p2) pos) (evSlL oe ol) := ⟨PE.imp (pe_slice (sl_B X.K) he.h (po_some hl.h) po_none) fun σ H Q q => by
  refine prim_run (R := fun vs H Q => match vs with | [x, y] => ∃ i, y = .int i ∧ rSlB X.K x (some i) none H Q | _ => False) (fun g H ds vs d Q zd ra e k => ?_) q
  split at e
  · rename_i d i
    obtain ⟨v, P, w, R, rfl, h1, h2⟩ := ra.two
    exact ⟨i, rep_int h2, slD_ok zd h1 e k⟩
  · cases e⟩
theorem q_slH (he : QO X e oe) (hh : QO X h oh) : QE X (.Subscript e (.Slice none (some h) none p2) pos) (evSlH oe oh) := ⟨PE.imp (pe_slice (sl_B X.K) he.h po_none (po_some hh.h)) fun σ H Q q => by
  refine prim_run (R := fun vs H Q => match vs with | [x, y] => ∃ i, y = .int i ∧ rSlB X.K x none (some i) H Q | _ => False) (fun g H ds vs d Q zd ra e k => ?_) q
  split at e
  · rename_i d i
    obtain ⟨v, P, w, R, rfl, h1, h2⟩ := ra.two
    exact ⟨i, rep_int h2, slD_ok zd h1 e k⟩
  · cases e⟩
theorem q_slB (he : QO X e oe) (hl : QO X l ol) (hh : QO X h oh) : QE X (.Subscript e (.Slice (some l) (some h) none p2) pos) (evSlB oe ol oh) := ⟨PE.imp (pe_slice (sl_B X.K) he.h (po_some hl.h) (po_some hh.h)) fun σ H Q q => by
  obtain ⟨g, m, P, r, d, m', e, k⟩ := q
  simp only [evSlB, Option.bind_eq_bind, Option.bind_eq_some_iff, Prod.exists] at e
  obtain ⟨ds, m1, e1, hs, m2, e2, e⟩ := e
  split at e
  · rename_i d i j
    split at e
    · rename_i hm
      subst hm
      simp only [Option.map_eq_some_iff, Prod.mk.injEq] at e
      obtain ⟨rr, e3, rfl, rfl⟩ := e
      show tOms X.K [oe, ol] σ H fun vs H2 => match vs with | [x, y] => ∃ i, y = .int i ∧ tOm X.K oh σ H2 (fun z H3 => ∃ j, z = .int j ∧ rSlB X.K x (some i) (some j) H3 Q) | _ => False
      refine oms_run [oe, ol] r e1 fun g1 P1 Pv vs H1 s1 rs r1 n1 => ?_
      obtain ⟨v, P0, w, R0, rfl, h1, h2⟩ := (RepAs.ra r1 rs).two
      refine ⟨i, rep_int h2, om_run r1 e2 fun g2 P2 Pw Pr z H2 s2 rz r2 n2 => ⟨j, rep_int rz, ?_⟩⟩
      have rs2 := rs.held s2 r1.fpOk fun a q z => n1 a z q
      obtain ⟨v', P0', w', R0', e', h1', h2'⟩ := (RepAs.ra r2 rs2).two
      cases e'
      refine slD_ok r2.zd h1' e3 fun v2 H3 nw => ?_
      obtain ⟨Pz, s3, h3, r3, n3⟩ := New.go (s1.trans (s2.frame (R := Pv) |>.sub (Q' := fun a => P2 a ∨ Pw a) (fun _ q => q) fun _ q => .inl q)) r2 nw
      exact k g2 P2 Pz v2 H3 s3 h3 r3 n3
    · cases e
  · cases e⟩
end
end Q
namespace L3
open PySem PySem.Spec PyProof.Rows PySem.SeqAt L2
abbrev St := L2.St
inductive D where
  | fl (v : V)
  | tup (ds : List D)
  | lst (ds : List D)
mutual
def eqD : D → D → Bool
  | .fl a, .fl b => eqV a b
  | .tup a, .tup b => eqDs a b
  | .lst a, .lst b => eqDs a b
  | _, _ => false
def eqDs : List D → List D → Bool
  | [], [] => true
  | x :: xs, y :: ys => eqD x y && eqDs xs ys
  | _, _ => false
end
mutual
def D.dep : D → Nat
  | .fl _ => 0
  | .tup ds => depL ds + 1
  | .lst ds => depL ds + 1
def depL : List D → Nat
  | [] => 0
  | d :: ds => max d.dep (depL ds)
end
mutual
def Is (K : PySem.W.Frag) (H : Hp) : V → D → Prop
  | x, .fl v => x = v ∧ flatV v = true
  | x, .tup ds => ∃ a xs, x = .ref a ∧ SqT K H a xs ∧ IsL K H xs ds
  | x, .lst ds => ∃ a xs, x = .ref a ∧ SqL K H a xs ∧ IsL K H xs ds
def IsL (K : PySem.W.Frag) (H : Hp) : List V → List D → Prop
  | [], [] => True
  | x :: xs, d :: ds => Is K H x d ∧ IsL K H xs ds
  | _, _ => False
end
theorem IsL.nil {K : PySem.W.Frag} {H : Hp} : IsL K H [] [] := by unfold IsL; trivial
theorem IsL.cons {K : PySem.W.Frag} {H : Hp} {x : V} {d : D} {xs : List V} {ds : List D} (h : Is K H x d) (t : IsL K H xs ds) : IsL K H (x :: xs) (d :: ds) := by unfold IsL; exact ⟨h, t⟩
theorem IsL.inv {K : PySem.W.Frag} {H : Hp} {x : V} {xs : List V} {es : List D} (h : IsL K H (x :: xs) es) : ∃ d ds, es = d :: ds ∧ Is K H x d ∧ IsL K H xs ds := by
  cases es with
  | nil => unfold IsL at h; exact h.elim
  | cons d ds => unfold IsL at h; exact ⟨d, ds, rfl, h.1, h.2⟩
theorem IsL.length {K : PySem.W.Frag} {H : Hp} : ∀ {xs : List V} {ds : List D}, IsL K H xs ds → xs.length = ds.length
  | [], [], _ => rfl
  | [], _ :: _, h => by unfold IsL at h; exact h.elim
  | _ :: _, [], h => by unfold IsL at h; exact h.elim
  | x :: xs, d :: ds, h => by unfold IsL at h; rw [List.length_cons, List.length_cons, IsL.length h.2]
theorem IsL.get {K : PySem.W.Frag} {H : Hp} : ∀ {xs : List V} {ds : List D} {i : Nat} {d : D}, IsL K H xs ds → ds[i]? = some d → ∃ x, xs[i]? = some x ∧ Is K H x d
  | [], [], _, _, _, e => by simp at e
  | [], _ :: _, _, _, h, _ => by unfold IsL at h; exact h.elim
  | _ :: _, [], _, _, _, e => by simp at e
  | x :: xs, d :: ds, 0, d', h, e => by
    unfold IsL at h
    have : d = d' := by simpa using e
    subst this
    exact ⟨x, rfl, h.1⟩
  | x :: xs, d :: ds, i + 1, _, h, e => by
    unfold IsL at h
    obtain ⟨y, e1, e2⟩ := IsL.get (i := i) h.2 (by simpa using e)
    exact ⟨y, by simpa using e1, e2⟩
theorem IsL.app {K : PySem.W.Frag} {H : Hp} : ∀ {xs ys : List V} {ds es : List D}, IsL K H xs ds → IsL K H ys es → IsL K H (xs ++ ys) (ds ++ es)
  | [], _, [], _, _, t => t
  | [], _, _ :: _, _, h, _ => by unfold IsL at h; exact h.elim
  | _ :: _, _, [], _, h, _ => by unfold IsL at h; exact h.elim
  | x :: xs, ys, d :: ds, es, h, t => by
    unfold IsL at h
    exact IsL.cons h.1 (IsL.app h.2 t)
theorem IsL.snoc {K : PySem.W.Frag} {H : Hp} {xs : List V} {ds : List D} {x : V} {d : D} (h : IsL K H xs ds) (t : Is K H x d) : IsL K H (xs ++ [x]) (ds ++ [d]) := h.app (IsL.cons t IsL.nil)
theorem tup_lst {X : Cx} {pins : List (Addr × Obj)} {σ : St} {H : Hp} {s : Shared} {a : Addr} {xs ys : List V} (I : Inv X pins σ H s) (h : SqT X.K H a xs) (k : SqL X.K H a ys) : False := by
  obtain ⟨_, _, ⟨o, e, c, _⟩, _⟩ := I.tuple h
  obtain ⟨_, _, ⟨o', n, e', c', _⟩, _⟩ := I.list k
  rw [e] at e'; cases e'
  rw [c] at c'
  injection c' with q
  exact absurd q (by decide)
mutual
theorem Is.inj {X : Cx} {pins : List (Addr × Obj)} {σ : St} {H : Hp} {s : Shared} (I : Inv X pins σ H s) : ∀ {d e : D} {x : V}, Is X.K H x d → Is X.K H x e → d = e
  | .fl v, e, x, h, k => by
    unfold Is at h
    obtain ⟨rfl, hf⟩ := h
    cases e with
    | fl u => unfold Is at k; rw [k.1]
    | tup es => unfold Is at k; obtain ⟨a, xs, rfl, _⟩ := k; cases hf
    | lst es => unfold Is at k; obtain ⟨a, xs, rfl, _⟩ := k; cases hf
  | .tup ds, e, x, h, k => by
    unfold Is at h
    obtain ⟨a, xs, rfl, h1, h2⟩ := h
    cases e with
    | fl u => unfold Is at k; obtain ⟨k1, k2⟩ := k; rw [← k1] at k2; cases k2
    | tup es =>
      unfold Is at k
      obtain ⟨b, ys, e, k1, k2⟩ := k
      cases e
      rw [I.tuple_inj h1 k1] at h2
      rw [IsL.inj I h2 k2]
    | lst es => unfold Is at k; obtain ⟨b, ys, e, k1, k2⟩ := k; cases e; exact (tup_lst I h1 k1).elim
  | .lst ds, e, x, h, k => by
    unfold Is at h
    obtain ⟨a, xs, rfl, h1, h2⟩ := h
    cases e with
    | fl u => unfold Is at k; obtain ⟨k1, k2⟩ := k; rw [← k1] at k2; cases k2
    | lst es =>
      unfold Is at k
      obtain ⟨b, ys, e, k1, k2⟩ := k
      cases e
      rw [I.list_inj h1 k1] at h2
      rw [IsL.inj I h2 k2]
    | tup es => unfold Is at k; obtain ⟨b, ys, e, k1, k2⟩ := k; cases e; exact (tup_lst I k1 h1).elim
theorem IsL.inj {X : Cx} {pins : List (Addr × Obj)} {σ : St} {H : Hp} {s : Shared} (I : Inv X pins σ H s) : ∀ {ds es : List D} {xs : List V}, IsL X.K H xs ds → IsL X.K H xs es → ds = es
  | [], es, [], h, k => by
    cases es with
    | nil => rfl
    | cons e es => unfold IsL at k; exact k.elim
  | [], _, _ :: _, h, _ => by unfold IsL at h; exact h.elim
  | _ :: _, _, [], h, _ => by unfold IsL at h; exact h.elim
  | d :: ds, es, x :: xs, h, k => by
    unfold IsL at h
    obtain ⟨e, es', rfl, k1, k2⟩ := k.inv
    rw [Is.inj I h.1 k1, IsL.inj I h.2 k2]
end
theorem eqV_refl {v : V} (h : flatV v = true) : eqV v v = true := by
  cases v <;> first | rfl | (simp [eqV]; done) | cases h
mutual
theorem eqD_refl {K : PySem.W.Frag} {H : Hp} : ∀ {d : D} {x : V}, Is K H x d → eqD d d = true
  | .fl v, x, h => by unfold Is at h; unfold eqD; exact eqV_refl h.2
  | .tup ds, x, h => by unfold Is at h; obtain ⟨_, _, _, _, h2⟩ := h; unfold eqD; exact eqDs_refl h2
  | .lst ds, x, h => by unfold Is at h; obtain ⟨_, _, _, _, h2⟩ := h; unfold eqD; exact eqDs_refl h2
theorem eqDs_refl {K : PySem.W.Frag} {H : Hp} : ∀ {ds : List D} {xs : List V}, IsL K H xs ds → eqDs ds ds = true
  | [], _, _ => by unfold eqDs; rfl
  | _ :: _, [], h => by unfold IsL at h; exact h.elim
  | d :: ds, x :: xs, h => by
    unfold IsL at h
    unfold eqDs
    rw [eqD_refl h.1, eqDs_refl h.2]; rfl
end
theorem eqDs_range : ∀ (xs ys : List D) (e : Nat → Bool), (∀ i x y, xs[i]? = some x → ys[i]? = some y → e i = eqD x y) → ((List.range (min xs.length ys.length)).all e && xs.length == ys.length) = eqDs xs ys
  | [], [], _, _ => by unfold eqDs; rfl
  | [], _ :: _, _, _ => by unfold eqDs; simp
  | _ :: _, [], _, _ => by unfold eqDs; simp
  | x :: xs, y :: ys, e, h => by
    have ih := eqDs_range xs ys (fun i => e (i + 1)) fun i a b h1 h2 => h (i + 1) a b (by simpa using h1) (by simpa using h2)
    have h0 := h 0 x y rfl rfl
    unfold eqDs
    rw [← ih, ← h0, List.length_cons, List.length_cons, Nat.succ_min_succ, List.range_succ_eq_map, List.all_cons, List.all_map]
    have : ((xs.length + 1 == ys.length + 1) : Bool) = (xs.length == ys.length) := by simp
    rw [this, Bool.and_assoc]
    rfl
theorem dep_mem : ∀ {ds : List D} {i : Nat} {d : D}, ds[i]? = some d → d.dep ≤ depL ds
  | [], _, _, e => by simp at e
  | d :: ds, 0, d', e => by
    have : d = d' := by simpa using e
    subst this
    show d.dep ≤ depL (d :: ds)
    unfold depL
    exact Nat.le_max_left _ _
  | d :: ds, i + 1, x, e => by
    have := dep_mem (ds := ds) (i := i) (d := x) (by simpa using e)
    unfold depL
    exact Nat.le_trans this (Nat.le_max_right _ _)
section
variable {X : Cx} {pins : List (Addr × Obj)} {σ : St} {H : Hp} {s : Shared}
def eAt (ds es : List D) (i : Nat) : Bool := match ds[i]?, es[i]? with | some a, some b => eqD a b | _, _ => true
theorem eAt_of {ds es : List D} {i : Nat} {a b : D} (h1 : ds[i]? = some a) (h2 : es[i]? = some b) : eAt ds es i = eqD a b := by unfold eAt; rw [h1, h2]
theorem flat_cases {x : V} (h : flatV x = true) : x = .non ∨ (∃ b, x = .bl b) ∨ (∃ i, x = .int i) ∨ ∃ z, x = .str z := by
  cases x with
  | non => exact .inl rfl
  | bl b => exact .inr (.inl ⟨b, rfl⟩)
  | int i => exact .inr (.inr (.inl ⟨i, rfl⟩))
  | str z => exact .inr (.inr (.inr ⟨z, rfl⟩))
  | _ => cases h
theorem eqAt_D (I : Inv X pins σ H s) : ∀ (n : Nat) (A : Around) (d e : D) (x y : V) (u v : Value), d.dep ≤ n → A.units + n < cLine → RelV x u → RelV y v → Is X.K H x d → Is X.K H y e → EqAt A s u v (eqD d e) := by
  intro n
  induction n with
  | zero =>
    intro A d e x y u v hd hu rx ry hx hy
    cases d with
    | fl a =>
      unfold Is at hx
      obtain ⟨rfl, fx⟩ := hx
      cases e with
      | fl b => unfold Is at hy; obtain ⟨rfl, fy⟩ := hy; unfold eqD; exact eqAt_V rx ry fx fy
      | tup es =>
        unfold Is at hy
        obtain ⟨b, ys, rfl, h1, h2⟩ := hy
        cases ry
        obtain ⟨its, r, ht, _⟩ := I.tuple h1
        unfold eqD
        rcases flat_cases fx with rfl | ⟨c, rfl⟩ | ⟨c, rfl⟩ | ⟨c, rfl⟩
        · cases rx; exact EqAt.none_tuple ht hu
        · cases rx; exact EqAt.bool_tuple c ht hu
        · obtain ⟨t, rfl⟩ := rx; exact EqAt.int_tuple c t ht hu
        · obtain ⟨t, rfl⟩ := rx; exact EqAt.str_tuple c t ht hu
      | lst es =>
        unfold Is at hy
        obtain ⟨b, ys, rfl, h1, h2⟩ := hy
        cases ry
        obtain ⟨its, r, ht, _⟩ := I.list h1
        unfold eqD
        rcases flat_cases fx with rfl | ⟨c, rfl⟩ | ⟨c, rfl⟩ | ⟨c, rfl⟩
        · cases rx; exact EqAt.none_list ht.isList hu
        · cases rx; exact EqAt.bool_list c ht.isList hu
        · obtain ⟨t, rfl⟩ := rx; exact EqAt.int_list c t ht.isList hu
        · obtain ⟨t, rfl⟩ := rx; exact EqAt.str_list c t ht.isList hu
    | tup ds => unfold D.dep at hd; omega
    | lst ds => unfold D.dep at hd; omega
  | succ n ih =>
    intro A d e x y u v hd hu rx ry hx hy
    have hu0 : A.units < cLine := by omega
    cases d with
    | fl a => exact ih A (.fl a) e x y u v (by unfold D.dep; omega) (by omega) rx ry hx hy
    | tup ds =>
      unfold D.dep at hd
      have hx0 := hx
      unfold Is at hx
      obtain ⟨a, xs, rfl, h1, h2⟩ := hx
      cases rx
      obtain ⟨its, r, ht, _⟩ := I.tuple h1
      cases e with
      | fl b =>
        unfold Is at hy
        obtain ⟨rfl, fy⟩ := hy
        unfold eqD
        rcases flat_cases fy with rfl | ⟨c, rfl⟩ | ⟨c, rfl⟩ | ⟨c, rfl⟩
        · cases ry; exact EqAt.tuple_none ht hu0
        · cases ry; exact EqAt.tuple_bool c ht hu0
        · obtain ⟨t, rfl⟩ := ry; exact EqAt.tuple_int c t ht hu0
        · obtain ⟨t, rfl⟩ := ry; exact EqAt.tuple_str c t ht hu0
      | tup es =>
        have hy0 := hy
        unfold Is at hy
        obtain ⟨b, ys, rfl, k1, k2⟩ := hy
        cases ry
        obtain ⟨its2, r2, ht2, _⟩ := I.tuple k1
        by_cases hab : a = b
        · subst hab
          rw [Is.inj I hx0 hy0, eqD_refl hy0]
          exact EqAt.same _
        · refine EqAt.of_refs hab ?_
          have q := RcAt.tuples (e := eAt ds es) ht ht2 hu0 (fun j j1 j2 => ?_)
          · have e1 := eqDs_range ds es (eAt ds es) fun i a b q1 q2 => eAt_of q1 q2
            rw [List.size_toArray, List.size_toArray, ← r.length, ← r2.length, h2.length, k2.length, e1] at q
            unfold eqD
            exact q
          · have j1' : j < its.length := by simpa using j1
            have j2' : j < its2.length := by simpa using j2
            have l1 : j < ds.length := by rw [← h2.length, r.length]; exact j1'
            have l2 : j < es.length := by rw [← k2.length, r2.length]; exact j2'
            obtain ⟨x', ex, px⟩ := h2.get (i := j) (List.getElem?_eq_getElem l1)
            obtain ⟨y', ey, py⟩ := k2.get (i := j) (List.getElem?_eq_getElem l2)
            obtain ⟨u', eu, ru⟩ := r.get ex
            obtain ⟨v', ev, rv⟩ := r2.get ey
            rw [eAt_of (List.getElem?_eq_getElem l1) (List.getElem?_eq_getElem l2)]
            have z1 : its.toArray[j] = u' := by rw [List.getElem?_eq_getElem j1'] at eu; simpa using Option.some.inj eu
            have z2 : its2.toArray[j] = v' := by rw [List.getElem?_eq_getElem j2'] at ev; simpa using Option.some.inj ev
            rw [z1, z2]
            exact ih A.in1 _ _ x' y' u' v' (Nat.le_trans (dep_mem (List.getElem?_eq_getElem l1)) (by omega)) (by show A.units + 1 + n < cLine; omega) ru rv px py
      | lst es =>
        unfold Is at hy
        obtain ⟨b, ys, rfl, k1, k2⟩ := hy
        cases ry
        obtain ⟨its2, r2, ht2, _⟩ := I.list k1
        unfold eqD
        exact EqAt.tuple_list ht ht2.isList hu0
    | lst ds =>
      unfold D.dep at hd
      have hx0 := hx
      unfold Is at hx
      obtain ⟨a, xs, rfl, h1, h2⟩ := hx
      cases rx
      obtain ⟨its, r, ht, _⟩ := I.list h1
      cases e with
      | fl b =>
        unfold Is at hy
        obtain ⟨rfl, fy⟩ := hy
        unfold eqD
        rcases flat_cases fy with rfl | ⟨c, rfl⟩ | ⟨c, rfl⟩ | ⟨c, rfl⟩
        · cases ry; exact EqAt.list_none ht.isList hu0
        · cases ry; exact EqAt.list_bool c ht.isList hu0
        · obtain ⟨t, rfl⟩ := ry; exact EqAt.list_int c t ht.isList hu0
        · obtain ⟨t, rfl⟩ := ry; exact EqAt.list_str c t ht.isList hu0
      | tup es =>
        unfold Is at hy
        obtain ⟨b, ys, rfl, k1, k2⟩ := hy
        cases ry
        obtain ⟨its2, r2, ht2, _⟩ := I.tuple k1
        unfold eqD
        exact EqAt.list_tuple ht.isList ht2 hu0
      | lst es =>
        have hy0 := hy
        unfold Is at hy
        obtain ⟨b, ys, rfl, k1, k2⟩ := hy
        cases ry
        obtain ⟨its2, r2, ht2, _⟩ := I.list k1
        by_cases hab : a = b
        · subst hab
          rw [Is.inj I hx0 hy0, eqD_refl hy0]
          exact EqAt.same _
        · refine EqAt.of_refs hab ?_
          by_cases hsz : ds.length = es.length
          · have e1 := eqDs_range ds es (eAt ds es) fun i a b q1 q2 => eAt_of q1 q2
            rw [hsz, Nat.min_self, beq_self_eq_true, Bool.and_true] at e1
            have q := RcAt.lists (e := eAt ds es) ht.isList ht2.isList (by rw [List.size_toArray, List.size_toArray, ← r.length, ← r2.length, h2.length, k2.length]; exact hsz) hu0 (fun j j1 j2 => ?_)
            · rw [List.size_toArray, ← r.length, h2.length, hsz, e1] at q
              unfold eqD
              exact q
            · have j1' : j < its.length := by simpa using j1
              have j2' : j < its2.length := by simpa using j2
              have l1 : j < ds.length := by rw [← h2.length, r.length]; exact j1'
              have l2 : j < es.length := by rw [← k2.length, r2.length]; exact j2'
              obtain ⟨x', ex, px⟩ := h2.get (i := j) (List.getElem?_eq_getElem l1)
              obtain ⟨y', ey, py⟩ := k2.get (i := j) (List.getElem?_eq_getElem l2)
              obtain ⟨u', eu, ru⟩ := r.get ex
              obtain ⟨v', ev, rv⟩ := r2.get ey
              rw [eAt_of (List.getElem?_eq_getElem l1) (List.getElem?_eq_getElem l2)]
              have z1 : its.toArray[j] = u' := by rw [List.getElem?_eq_getElem j1'] at eu; simpa using Option.some.inj eu
              have z2 : its2.toArray[j] = v' := by rw [List.getElem?_eq_getElem j2'] at ev; simpa using Option.some.inj ev
              rw [z1, z2]
              exact ih A.in1 _ _ x' y' u' v' (Nat.le_trans (dep_mem (List.getElem?_eq_getElem l1)) (by omega)) (by show A.units + 1 + n < cLine; omega) ru rv px py
          · have q := RcAt.lists_lengths (A := A) ht.isList ht2.isList (by rw [List.size_toArray, List.size_toArray, ← r.length, ← r2.length, h2.length, k2.length]; simpa using hsz) hu0
            have e1 := eqDs_range ds es (eAt ds es) fun i a b q1 q2 => eAt_of q1 q2
            have : (ds.length == es.length) = false := by simpa using hsz
            rw [this, Bool.and_false] at e1
            unfold eqD
            rw [← e1]
            exact q
end
def D.seq : D → Bool
  | .fl _ => false
  | _ => true
section
variable {X : Cx} {pins : List (Addr × Obj)} {σ : St} {H : Hp} {s : Shared}
theorem items_eq (I : Inv X pins σ H s) {n : Nat} {A : Around} {xs ys : List V} {ds es : List D} {its its2 : List Value} (hd : depL ds ≤ n) (hu : A.units + 1 + n < cLine) (r : Vals xs its) (r2 : Vals ys its2) (h2 : IsL X.K H xs ds) (k2 : IsL X.K H ys es) :
    ∀ j (h1 : j < its.toArray.size) (h2 : j < its2.toArray.size), EqAt A.in1 s its.toArray[j] its2.toArray[j] (eAt ds es j) := fun j j1 j2 => by
  have j1' : j < its.length := by simpa using j1
  have j2' : j < its2.length := by simpa using j2
  have l1 : j < ds.length := by rw [← h2.length, r.length]; exact j1'
  have l2 : j < es.length := by rw [← k2.length, r2.length]; exact j2'
  obtain ⟨x', ex, px⟩ := h2.get (i := j) (List.getElem?_eq_getElem l1)
  obtain ⟨y', ey, py⟩ := k2.get (i := j) (List.getElem?_eq_getElem l2)
  obtain ⟨u', eu, ru⟩ := r.get ex
  obtain ⟨v', ev, rv⟩ := r2.get ey
  rw [eAt_of (List.getElem?_eq_getElem l1) (List.getElem?_eq_getElem l2)]
  have z1 : its.toArray[j] = u' := by rw [List.getElem?_eq_getElem j1'] at eu; simpa using Option.some.inj eu
  have z2 : its2.toArray[j] = v' := by rw [List.getElem?_eq_getElem j2'] at ev; simpa using Option.some.inj ev
  rw [z1, z2]
  exact eqAt_D I n A.in1 _ _ x' y' u' v' (Nat.le_trans (dep_mem (List.getElem?_eq_getElem l1)) hd) (by show A.units + 1 + n < cLine; exact hu) ru rv px py
theorem rcAt_D (I : Inv X pins σ H s) {A : Around} {d e : D} {x y : V} {u v : Value} (sd : d.seq = true) (se : e.seq = true) (hu : A.units + d.dep + 1 < cLine) (rx : RelV x u) (ry : RelV y v) (hx : Is X.K H x d) (hy : Is X.K H y e) : RcAt A s u v (eqD d e) ∧ RcNeAt A s u v (!eqD d e) := by
  have hu0 : A.units < cLine := by omega
  cases d with
  | fl a => cases sd
  | tup ds =>
    unfold D.dep at hu
    unfold Is at hx
    obtain ⟨a, xs, rfl, h1, h2⟩ := hx
    cases rx
    obtain ⟨its, r, ht, _⟩ := I.tuple h1
    cases e with
    | fl b => cases se
    | tup es =>
      unfold Is at hy
      obtain ⟨b, ys, rfl, k1, k2⟩ := hy
      cases ry
      obtain ⟨its2, r2, ht2, _⟩ := I.tuple k1
      have e1 := eqDs_range ds es (eAt ds es) fun i a b q1 q2 => eAt_of q1 q2
      have it := items_eq I (A := A) (n := depL ds) (Nat.le_refl _) (by omega) r r2 h2 k2
      have q := RcAt.tuples (e := eAt ds es) ht ht2 hu0 it
      have q' := RcNeAt.tuples (e := eAt ds es) ht ht2 hu0 it
      rw [List.size_toArray, List.size_toArray, ← r.length, ← r2.length, h2.length, k2.length, e1] at q q'
      unfold eqD
      exact ⟨q, q'⟩
    | lst es =>
      unfold Is at hy
      obtain ⟨b, ys, rfl, k1, k2⟩ := hy
      cases ry
      obtain ⟨its2, r2, ht2, _⟩ := I.list k1
      unfold eqD
      exact ⟨RcAt.tuple_list ht ht2.isList hu0, RcNeAt.tuple_list ht ht2.isList hu0⟩
  | lst ds =>
    unfold D.dep at hu
    unfold Is at hx
    obtain ⟨a, xs, rfl, h1, h2⟩ := hx
    cases rx
    obtain ⟨its, r, ht, _⟩ := I.list h1
    cases e with
    | fl b => cases se
    | tup es =>
      unfold Is at hy
      obtain ⟨b, ys, rfl, k1, k2⟩ := hy
      cases ry
      obtain ⟨its2, r2, ht2, _⟩ := I.tuple k1
      unfold eqD
      exact ⟨RcAt.list_tuple ht.isList ht2 hu0, RcNeAt.list_tuple ht.isList ht2 hu0⟩
    | lst es =>
      unfold Is at hy
      obtain ⟨b, ys, rfl, k1, k2⟩ := hy
      cases ry
      obtain ⟨its2, r2, ht2, _⟩ := I.list k1
      have e1 := eqDs_range ds es (eAt ds es) fun i a b q1 q2 => eAt_of q1 q2
      unfold eqD
      by_cases hsz : ds.length = es.length
      · rw [hsz, Nat.min_self, beq_self_eq_true, Bool.and_true] at e1
        have it := items_eq I (A := A) (n := depL ds) (Nat.le_refl _) (by omega) r r2 h2 k2
        have sz : its.toArray.size = its2.toArray.size := by rw [List.size_toArray, List.size_toArray, ← r.length, ← r2.length, h2.length, k2.length]; exact hsz
        have q := RcAt.lists (e := eAt ds es) ht.isList ht2.isList sz hu0 it
        have q' := RcNeAt.lists (e := eAt ds es) ht.isList ht2.isList sz hu0 it
        rw [List.size_toArray, ← r.length, h2.length, hsz, e1] at q q'
        exact ⟨q, q'⟩
      · have sz : (its.toArray.size != its2.toArray.size) = true := by rw [List.size_toArray, List.size_toArray, ← r.length, ← r2.length, h2.length, k2.length]; simpa using hsz
        have : (ds.length == es.length) = false := by simpa using hsz
        rw [this, Bool.and_false] at e1
        rw [← e1]
        exact ⟨RcAt.lists_lengths ht.isList ht2.isList sz hu0, RcNeAt.lists_lengths ht.isList ht2.isList sz hu0⟩
end
end L3
namespace L3
open PySem PySem.Spec PyProof.Rows PySem.SeqAt L2
section
variable {X : Cx} {pins : List (Addr × Obj)} {σ : L2.St} {H : Hp} {s : Shared}
theorem rc_flat {A : Around} {x y : V} {u v : Value} (rx : RelV x u) (ry : RelV y v) (fx : flatV x = true) (fy : flatV y = true) : RcAt A s u v (eqV x y) ∧ RcNeAt A s u v (!eqV x y) := by
  rcases flat_cases fx with rfl | ⟨c, rfl⟩ | ⟨c, rfl⟩ | ⟨c, rfl⟩ <;> rcases flat_cases fy with rfl | ⟨d, rfl⟩ | ⟨d, rfl⟩ | ⟨d, rfl⟩
  · cases rx; cases ry; exact ⟨RcAt.none_none , RcNeAt.none_none ⟩
  · cases rx; cases ry; exact ⟨RcAt.none_bool d, RcNeAt.none_bool d⟩
  · cases rx; obtain ⟨dt, rfl⟩ := ry; exact ⟨RcAt.none_int d dt, RcNeAt.none_int d dt⟩
  · cases rx; obtain ⟨dt, rfl⟩ := ry; exact ⟨RcAt.none_str d dt, RcNeAt.none_str d dt⟩
  · cases rx; cases ry; exact ⟨RcAt.bool_none c, RcNeAt.bool_none c⟩
  · cases rx; cases ry; exact ⟨RcAt.bool_bool c d, RcNeAt.bool_bool c d⟩
  · cases rx; obtain ⟨dt, rfl⟩ := ry; exact ⟨RcAt.bool_int c d dt, RcNeAt.bool_int c d dt⟩
  · cases rx; obtain ⟨dt, rfl⟩ := ry; exact ⟨RcAt.bool_str c d dt, RcNeAt.bool_str c d dt⟩
  · obtain ⟨ct, rfl⟩ := rx; cases ry; exact ⟨RcAt.int_none c ct, RcNeAt.int_none c ct⟩
  · obtain ⟨ct, rfl⟩ := rx; cases ry; exact ⟨RcAt.int_bool c ct d, RcNeAt.int_bool c ct d⟩
  · obtain ⟨ct, rfl⟩ := rx; obtain ⟨dt, rfl⟩ := ry; exact ⟨RcAt.int_int c ct d dt, RcNeAt.int_int c ct d dt⟩
  · obtain ⟨ct, rfl⟩ := rx; obtain ⟨dt, rfl⟩ := ry; exact ⟨RcAt.int_str c ct d dt, RcNeAt.int_str c ct d dt⟩
  · obtain ⟨ct, rfl⟩ := rx; cases ry; exact ⟨RcAt.str_none c ct, RcNeAt.str_none c ct⟩
  · obtain ⟨ct, rfl⟩ := rx; cases ry; exact ⟨RcAt.str_bool c ct d, RcNeAt.str_bool c ct d⟩
  · obtain ⟨ct, rfl⟩ := rx; obtain ⟨dt, rfl⟩ := ry; exact ⟨RcAt.str_int c ct d dt, RcNeAt.str_int c ct d dt⟩
  · obtain ⟨ct, rfl⟩ := rx; obtain ⟨dt, rfl⟩ := ry; exact ⟨RcAt.str_str c ct d dt, RcNeAt.str_str c ct d dt⟩
theorem rcAt_all (I : Inv X pins σ H s) {A : Around} {d e : D} {x y : V} {u v : Value} (hu : A.units + d.dep + 1 < cLine) (rx : RelV x u) (ry : RelV y v) (hx : Is X.K H x d) (hy : Is X.K H y e) : RcAt A s u v (eqD d e) ∧ RcNeAt A s u v (!eqD d e) := by
  have hu0 : A.units < cLine := by omega
  cases d with
  | fl a =>
    unfold Is at hx
    obtain ⟨rfl, fx⟩ := hx
    cases e with
    | fl b =>
      unfold Is at hy
      obtain ⟨rfl, fy⟩ := hy
      unfold eqD
      exact rc_flat rx ry fx fy
    | tup es =>
      unfold Is at hy
      obtain ⟨b, ys, rfl, k1, k2⟩ := hy
      cases ry
      obtain ⟨its2, r2, ht2, _⟩ := I.tuple k1
      unfold eqD
      rcases flat_cases fx with rfl | ⟨c, rfl⟩ | ⟨c, rfl⟩ | ⟨c, rfl⟩
      · cases rx; exact ⟨RcAt.none_tuple ht2 hu0, RcNeAt.none_tuple ht2 hu0⟩
      · cases rx; exact ⟨RcAt.bool_tuple c ht2 hu0, RcNeAt.bool_tuple c ht2 hu0⟩
      · obtain ⟨t, rfl⟩ := rx; exact ⟨RcAt.int_tuple c t ht2 hu0, RcNeAt.int_tuple c t ht2 hu0⟩
      · obtain ⟨t, rfl⟩ := rx; exact ⟨RcAt.str_tuple c t ht2 hu0, RcNeAt.str_tuple c t ht2 hu0⟩
    | lst es =>
      unfold Is at hy
      obtain ⟨b, ys, rfl, k1, k2⟩ := hy
      cases ry
      obtain ⟨its2, r2, ht2, _⟩ := I.list k1
      unfold eqD
      rcases flat_cases fx with rfl | ⟨c, rfl⟩ | ⟨c, rfl⟩ | ⟨c, rfl⟩
      · cases rx; exact ⟨RcAt.none_list ht2.isList hu0, RcNeAt.none_list ht2.isList hu0⟩
      · cases rx; exact ⟨RcAt.bool_list c ht2.isList hu0, RcNeAt.bool_list c ht2.isList hu0⟩
      · obtain ⟨t, rfl⟩ := rx; exact ⟨RcAt.int_list c t ht2.isList hu0, RcNeAt.int_list c t ht2.isList hu0⟩
      · obtain ⟨t, rfl⟩ := rx; exact ⟨RcAt.str_list c t ht2.isList hu0, RcNeAt.str_list c t ht2.isList hu0⟩
  | tup ds =>
    cases e with
    | fl b =>
      unfold Is at hx hy
      obtain ⟨b', ys, rfl, k1, k2⟩ := hx
      obtain ⟨rfl, fy⟩ := hy
      cases rx
      obtain ⟨its2, r2, ht2, _⟩ := I.tuple k1
      unfold eqD
      rcases flat_cases fy with rfl | ⟨c, rfl⟩ | ⟨c, rfl⟩ | ⟨c, rfl⟩
      · cases ry; exact ⟨RcAt.tuple_none ht2 hu0, RcNeAt.tuple_none ht2 hu0⟩
      · cases ry; exact ⟨RcAt.tuple_bool c ht2 hu0, RcNeAt.tuple_bool c ht2 hu0⟩
      · obtain ⟨t, rfl⟩ := ry; exact ⟨RcAt.tuple_int c t ht2 hu0, RcNeAt.tuple_int c t ht2 hu0⟩
      · obtain ⟨t, rfl⟩ := ry; exact ⟨RcAt.tuple_str c t ht2 hu0, RcNeAt.tuple_str c t ht2 hu0⟩
    | tup es => exact rcAt_D I rfl rfl hu rx ry hx hy
    | lst es => exact rcAt_D I rfl rfl hu rx ry hx hy
  | lst ds =>
    cases e with
    | fl b =>
      unfold Is at hx hy
      obtain ⟨b', ys, rfl, k1, k2⟩ := hx
      obtain ⟨rfl, fy⟩ := hy
      cases rx
      obtain ⟨its2, r2, ht2, _⟩ := I.list k1
      unfold eqD
      rcases flat_cases fy with rfl | ⟨c, rfl⟩ | ⟨c, rfl⟩ | ⟨c, rfl⟩
      · cases ry; exact ⟨RcAt.list_none ht2.isList hu0, RcNeAt.list_none ht2.isList hu0⟩
      · cases ry; exact ⟨RcAt.list_bool c ht2.isList hu0, RcNeAt.list_bool c ht2.isList hu0⟩
      · obtain ⟨t, rfl⟩ := ry; exact ⟨RcAt.list_int c t ht2.isList hu0, RcNeAt.list_int c t ht2.isList hu0⟩
      · obtain ⟨t, rfl⟩ := ry; exact ⟨RcAt.list_str c t ht2.isList hu0, RcNeAt.list_str c t ht2.isList hu0⟩
    | tup es => exact rcAt_D I rfl rfl hu rx ry hx hy
    | lst es => exact rcAt_D I rfl rfl hu rx ry hx hy
def rEqA (K : PySem.W.Frag) (neg : Bool) : R2 := fun x y H Q => ∃ d e, d.dep ≤ 150 ∧ Is K H x d ∧ Is K H y e ∧ Q (.bl (if neg then !eqD d e else eqD d e)) H
theorem op_eqA {j : Nat} (hr : Room j X.A) : OpR X (compareOp .Eq) (rEqA X.K false) := by
  intro pins s σ H x y v u Q I rx ry h
  obtain ⟨d, e, hd, hx, hy, q⟩ := h
  have := hr.un
  exact (rcAt_all I (by omega) rx ry hx hy).1 X.prog X.w _ _ ⟨.bl _, H, I, rfl, q⟩
theorem op_neA {j : Nat} (hr : Room j X.A) : OpR X (compareOp .NotEq) (rEqA X.K true) := by
  intro pins s σ H x y v u Q I rx ry h
  obtain ⟨d, e, hd, hx, hy, q⟩ := h
  have := hr.un
  exact (rcAt_all I (by omega) rx ry hx hy).2 X.prog X.w _ _ ⟨.bl _, H, I, rfl, q⟩
open Classical in
noncomputable def eqW (its : List Value) (ds : List D) (e : D) (u : Value) : Bool := decide (∃ (i : Nat) (d : D), its[i]? = some u ∧ ds[i]? = some d ∧ eqD d e = true)
open Classical in
theorem eqW_at (I : Inv X pins σ H s) {xs : List V} {its : List Value} {ds : List D} (r : Vals xs its) (h : IsL X.K H xs ds) {e : D} {i : Nat} {u : Value} {d : D} (hu : its[i]? = some u) (hd : ds[i]? = some d) : eqW its ds e u = eqD d e := by
  have key : ∀ (j : Nat) (d' : D), its[j]? = some u → ds[j]? = some d' → d' = d := fun j d' h1 h2 => by
    obtain ⟨x, ex, px⟩ := h.get hd
    obtain ⟨y, ey, py⟩ := h.get h2
    obtain ⟨u1, e1, r1⟩ := r.get ex
    obtain ⟨u2, e2, r2⟩ := r.get ey
    rw [hu] at e1; cases e1
    rw [h1] at e2; cases e2
    rw [r2.inj r1] at py
    exact Is.inj I py px
  unfold eqW
  cases q : eqD d e with
  | true => exact decide_eq_true ⟨i, d, hu, hd, q⟩
  | false =>
    refine decide_eq_false ?_
    rintro ⟨j, d', h1, h2, h3⟩
    rw [key j d' h1 h2, q] at h3
    cases h3
theorem any_eqW (I : Inv X pins σ H s) {xs : List V} {its : List Value} {ds : List D} (r : Vals xs its) (h : IsL X.K H xs ds) (e : D) : its.any (eqW its ds e) = ds.any fun d => eqD d e := by
  rw [Bool.eq_iff_iff, List.any_eq_true, List.any_eq_true]
  have hl : its.length = ds.length := by rw [← r.length, h.length]
  constructor
  · rintro ⟨u, hu, q⟩
    obtain ⟨i, hi, rfl⟩ := List.getElem_of_mem hu
    have hd : ds[i]? = some ds[i] := List.getElem?_eq_getElem (by omega)
    rw [eqW_at I r h (List.getElem?_eq_getElem hi) hd] at q
    exact ⟨_, List.mem_of_getElem? hd, q⟩
  · rintro ⟨d, hd, q⟩
    obtain ⟨i, hi, rfl⟩ := List.getElem_of_mem hd
    have hu : its[i]? = some its[i] := List.getElem?_eq_getElem (by omega)
    exact ⟨_, List.mem_of_getElem? hu, by rw [eqW_at I r h hu (List.getElem?_eq_getElem hi)]; exact q⟩
theorem all_eqW (I : Inv X pins σ H s) {A : Around} {xs : List V} {its : List Value} {ds : List D} (r : Vals xs its) (h : IsL X.K H xs ds) {e : D} {y : V} {v : Value} (ry : RelV y v) (hy : Is X.K H y e) (hd : depL ds ≤ 150) (hu : A.units + 150 < cLine) : ∀ w ∈ its, EqAt A s w v (eqW its ds e w) := fun w hw => by
  obtain ⟨i, hi, rfl⟩ := List.getElem_of_mem hw
  have hl : its.length = ds.length := by rw [← r.length, h.length]
  have hdi : ds[i]? = some ds[i] := List.getElem?_eq_getElem (by omega)
  rw [eqW_at I r h (List.getElem?_eq_getElem hi) hdi]
  obtain ⟨x, ex, px⟩ := h.get hdi
  obtain ⟨u1, e1, r1⟩ := r.get ex
  rw [List.getElem?_eq_getElem hi] at e1
  cases e1
  exact eqAt_D I 150 A _ _ x y _ _ (Nat.le_trans (dep_mem hdi) hd) hu r1 ry px hy
def rInA (K : PySem.W.Frag) (neg : Bool) : R2 := fun x y H Q => ∃ p ys ds e, y = .ref p ∧ (SqL K H p ys ∨ SqT K H p ys) ∧ IsL K H ys ds ∧ Is K H x e ∧ depL ds ≤ 150 ∧ Q (.bl (if neg then !(ds.any fun d => eqD d e) else ds.any fun d => eqD d e)) H
theorem op_inA {j : Nat} (hr : Room j X.A) : OpR X (compareOp .In) (rInA X.K false) := by
  intro pins s σ H x y v u Q I rx ry h
  obtain ⟨p, ys, ds, e, rfl, hq, hl, hx, hd, q⟩ := h
  have hu : X.A.units + 1 + 150 < cLine := by have := hr.un; omega
  cases ry
  rcases hq with hq | hq
  · obtain ⟨its, r, pl, hz⟩ := I.list hq
    refine SeqAt.in_listAt (eqW its ds e) pl.isList (fun w hw => all_eqW I r hl rx hx hd hu w (by simpa using hw)) ⟨.bl _, H, I, rfl, ?_⟩
    rw [show its.toArray.any (eqW its ds e) = its.any (eqW its ds e) by simp, any_eqW I r hl]
    exact q
  · obtain ⟨its, r, pl, hz⟩ := I.tuple hq
    refine SeqAt.in_tupleAt (eqW its ds e) pl (fun w hw => all_eqW I r hl rx hx hd hu w (by simpa using hw)) ⟨.bl _, H, I, rfl, ?_⟩
    rw [show its.toArray.any (eqW its ds e) = its.any (eqW its ds e) by simp, any_eqW I r hl]
    exact q
end
end L3
namespace Q
open PySem L2
mutual
def toD : Dt → L3.D
  | .non => .fl .non
  | .bl b => .fl (.bl b)
  | .int i => .fl (.int i)
  | .str l => .fl (.str (tx l))
  | .tup xs => .tup (toDs xs)
  | .lst _ xs => .lst (toDs xs)
  | _ => .fl .non
def toDs : List Dt → List L3.D
  | [] => []
  | d :: ds => toD d :: toDs ds
end
mutual
def Dt.cmp : Dt → Bool
  | .non => true
  | .bl _ => true
  | .int _ => true
  | .str _ => true
  | .tup xs => cmps xs
  | .lst _ xs => cmps xs
  | _ => false
def cmps : List Dt → Bool
  | [] => true
  | d :: ds => d.cmp && cmps ds
end
mutual
def Dt.dep : Dt → Nat
  | .tup xs => deps xs + 1
  | .lst _ xs => deps xs + 1
  | _ => 0
def deps : List Dt → Nat
  | [] => 0
  | d :: ds => max d.dep (deps ds)
end
mutual
def eqT : Dt → Dt → Bool
  | .non, .non => true
  | .bl a, .bl b => a == b
  | .bl a, .int b => (if a then 1 else 0) == b
  | .int a, .bl b => a == (if b then 1 else 0)
  | .int a, .int b => a == b
  | .str a, .str b => a == b
  | .tup xs, .tup ys => eqTs xs ys
  | .lst _ xs, .lst _ ys => eqTs xs ys
  | _, _ => false
def eqTs : List Dt → List Dt → Bool
  | [], [] => true
  | x :: xs, y :: ys => eqT x y && eqTs xs ys
  | _, _ => false
end
mutual
theorem eqT_D : ∀ (d e : Dt), d.cmp = true → e.cmp = true → L3.eqD (toD d) (toD e) = eqT d e
  | .non, e, h, k => by cases e <;> first | (unfold toD L3.eqD eqT; rfl) | (unfold Dt.cmp at k; cases k)
  | .bl b, e, h, k => by cases e <;> first | (unfold toD L3.eqD eqT; rfl) | (unfold Dt.cmp at k; cases k)
  | .int i, e, h, k => by cases e <;> first | (unfold toD L3.eqD eqT; rfl) | (unfold Dt.cmp at k; cases k)
  | .str l, e, h, k => by
    cases e with
    | str m => unfold toD L3.eqD eqT; rw [eqV_str]; exact (Bool.beq_eq_decide_eq l m).symm
    | _ => first | (unfold toD L3.eqD eqT; rfl) | (unfold Dt.cmp at k; cases k)
  | .tup xs, e, h, k => by
    cases e with
    | tup ys => unfold toD L3.eqD eqT; unfold Dt.cmp at h k; exact eqTs_D xs ys h k
    | _ => first | (unfold toD L3.eqD eqT; rfl) | (unfold Dt.cmp at k; cases k)
  | .lst o xs, e, h, k => by
    cases e with
    | lst o' ys => unfold toD L3.eqD eqT; unfold Dt.cmp at h k; exact eqTs_D xs ys h k
    | _ => first | (unfold toD L3.eqD eqT; rfl) | (unfold Dt.cmp at k; cases k)
  | .dic o xs, e, h, k => by unfold Dt.cmp at h; cases h
  | .ref o, e, h, k => by unfold Dt.cmp at h; cases h
  | .scr o, e, h, k => by unfold Dt.cmp at h; cases h
  | .ty o, e, h, k => by unfold Dt.cmp at h; cases h
  | .mtp o, e, h, k => by unfold Dt.cmp at h; cases h
theorem eqTs_D : ∀ (d e : List Dt), cmps d = true → cmps e = true → L3.eqDs (toDs d) (toDs e) = eqTs d e
  | [], [], _, _ => by unfold toDs L3.eqDs eqTs; rfl
  | [], _ :: _, _, _ => by simp only [toDs, L3.eqDs, eqTs]
  | _ :: _, [], _, _ => by simp only [toDs, L3.eqDs, eqTs]
  | x :: xs, y :: ys, h, k => by
    unfold cmps at h k
    rw [Bool.and_eq_true] at h k
    simp only [toDs, L3.eqDs, eqTs]
    rw [eqT_D x y h.1 k.1, eqTs_D xs ys h.2 k.2]
end
mutual
theorem dep_D : ∀ (d : Dt), (toD d).dep = d.dep
  | .non => by unfold toD L3.D.dep Dt.dep; rfl
  | .bl b => by unfold toD L3.D.dep Dt.dep; rfl
  | .int i => by unfold toD L3.D.dep Dt.dep; rfl
  | .str l => by unfold toD L3.D.dep Dt.dep; rfl
  | .tup xs => by unfold toD L3.D.dep Dt.dep; rw [deps_D xs]
  | .lst o xs => by unfold toD L3.D.dep Dt.dep; rw [deps_D xs]
  | .dic o xs => by unfold toD L3.D.dep Dt.dep; rfl
  | .ref o => by unfold toD L3.D.dep Dt.dep; rfl
  | .scr o => by unfold toD L3.D.dep Dt.dep; rfl
  | .ty o => by unfold toD L3.D.dep Dt.dep; rfl
  | .mtp o => by unfold toD L3.D.dep Dt.dep; rfl
theorem deps_D : ∀ (d : List Dt), L3.depL (toDs d) = deps d
  | [] => by unfold toDs L3.depL deps; rfl
  | x :: xs => by simp only [toDs, L3.depL, deps]; rw [dep_D x, deps_D xs]
end
section
variable {K : PySem.W.Frag} {g : G} {H : Hp}
mutual
theorem Rep.is : ∀ {d : Dt} {v : V} {P : Fp}, Rep K g H d v P → d.cmp = true → L3.Is K H v (toD d)
  | .non, v, P, h, _ => by rw [rep_non h]; unfold toD L3.Is; exact ⟨rfl, rfl⟩
  | .bl b, v, P, h, _ => by rw [rep_bl h]; unfold toD L3.Is; exact ⟨rfl, rfl⟩
  | .int i, v, P, h, _ => by rw [rep_int h]; unfold toD L3.Is; exact ⟨rfl, rfl⟩
  | .str l, v, P, h, _ => by rw [rep_str h]; unfold toD L3.Is; exact ⟨rfl, rfl⟩
  | .tup xs, v, P, h, c => by
    obtain ⟨a, vs, rfl, h1, h2⟩ := h.tup
    unfold Dt.cmp at c
    unfold toD L3.Is
    exact ⟨a, vs, rfl, h1, Reps.isL h2 c⟩
  | .lst o xs, v, P, h, c => by
    obtain ⟨a, vs, P', rfl, h1, h2⟩ := h.lst
    unfold Dt.cmp at c
    unfold toD L3.Is
    exact ⟨a, vs, rfl, .inl (.inl h1), Reps.isL h2 c⟩
  | .dic o xs, v, P, h, c => by unfold Dt.cmp at c; cases c
  | .ref o, v, P, h, c => by unfold Dt.cmp at c; cases c
  | .scr o, v, P, h, c => by unfold Dt.cmp at c; cases c
  | .ty o, v, P, h, c => by unfold Dt.cmp at c; cases c
  | .mtp o, v, P, h, c => by unfold Dt.cmp at c; cases c
theorem Reps.isL : ∀ {d : List Dt} {v : List V} {P : Fp}, Reps K g H d v P → cmps d = true → L3.IsL K H v (toDs d)
  | [], v, P, h, _ => by
    unfold Reps at h
    obtain ⟨rfl, _⟩ := h
    unfold toDs L3.IsL
    trivial
  | x :: xs, v, P, h, c => by
    unfold Reps at h
    obtain ⟨u, r, P1, P2, rfl, h1, h2, _⟩ := h
    unfold cmps at c
    rw [Bool.and_eq_true] at c
    unfold toDs L3.IsL
    exact ⟨Rep.is h1 c.1, Reps.isL h2 c.2⟩
end
def pEqN (neg : Bool) (ds : List Dt) : Option Dt := match ds with | [a, b] => bif a.cmp && b.cmp && decide (a.dep ≤ 150) then some (.bl (if neg then !eqT a b else eqT a b)) else none | _ => none
abbrev pEq := pEqN false
abbrev pNe := pEqN true
theorem pr_eqN {neg : Bool} : PrimR K (pEqN neg) (L2r (L3.rEqA K neg)) := by
  intro g H ds vs d Q zd ra e k
  unfold pEqN at e
  split at e
  · rename_i a b
    cases c : a.cmp && b.cmp && decide (a.dep ≤ 150) with
    | false => rw [c] at e; cases e
    | true =>
      rw [c, cond_true] at e
      cases e
      rw [Bool.and_eq_true, Bool.and_eq_true, decide_eq_true_eq] at c
      obtain ⟨v, P, w, R, rfl, h1, h2⟩ := ra.two
      refine ⟨toD a, toD b, by rw [dep_D]; exact c.2, h1.is c.1.1, h2.is c.1.2, ?_⟩
      rw [eqT_D a b c.1.1 c.1.2]
      exact k _ _ (New.bl _)
  · cases e
def memT (e : Dt) (ds : List Dt) : Bool := ds.any fun d => eqT d e
def sq : Dt → Option (List Dt)
  | .lst _ xs => some xs
  | .tup xs => some xs
  | .mtp ls => some (ls.map .str)
  | _ => none
def sub1 (x l : List Nat) : Bool := !(Builtin.Str.occurrences (tx l) (tx x) 0 (tx l).length 1).isEmpty
def pInN (neg : Bool) (ds : List Dt) : Option Dt := match ds with
  | [.str x, .str l] => some (.bl (if neg then !sub1 x l else sub1 x l))
  | [e, s] => match sq s with
    | some xs => bif e.cmp && cmps xs && decide (deps xs ≤ 150) then some (.bl (if neg then !memT e xs else memT e xs)) else none
    | none => none
  | _ => none
abbrev pIn := pInN false
def rInS (neg : Bool) : R2 := fun x y H Q => ∃ i j, x = .str i ∧ y = .str j ∧ Q (.bl (if neg then !(!(Builtin.Str.occurrences j i 0 j.length 1).isEmpty) else !(Builtin.Str.occurrences j i 0 j.length 1).isEmpty)) H
def rInQ (K : PySem.W.Frag) (neg : Bool) : R2 := fun x y H Q => rInS neg x y H Q ∨ L3.rInA K neg x y H Q
theorem anyD (e : Dt) (he : e.cmp = true) : ∀ (ds : List Dt), cmps ds = true → ((toDs ds).any fun d => L3.eqD d (toD e)) = memT e ds
  | [], _ => by unfold toDs memT; rfl
  | d :: ds, h => by
    unfold cmps at h
    rw [Bool.and_eq_true] at h
    unfold memT
    simp only [toDs, List.any_cons]
    rw [eqT_D d e h.1 he, anyD e he ds h.2]
    rfl
theorem Reps.strsL : ∀ (ls : List (List Nat)), Reps K g H (ls.map .str) (ls.map fun l => V.str (tx l)) nop
  | [] => Reps.nil
  | l :: ls => (Reps.cons (v := .str (tx l)) (by unfold Rep; exact ⟨rfl, fun _ z => z⟩) (Reps.strsL ls) fun _ z => z.elim).iff fun a => ⟨fun z => z.elim, fun z => z.elim id id⟩
theorem pr_inN {neg : Bool} : PrimR K (pInN neg) (L2r (rInQ K neg)) := by
  intro g H ds vs d Q zd ra e k
  unfold pInN at e
  split at e
  · rename_i x l
    cases e
    obtain ⟨v, P, w, R, rfl, h1, h2⟩ := ra.two
    rw [rep_str h1, rep_str h2]
    exact .inl ⟨_, _, rfl, rfl, k _ _ (New.bl _)⟩
  · rename_i a s _
    split at e
    · rename_i xs es
      cases c : a.cmp && cmps xs && decide (deps xs ≤ 150) with
      | false => rw [c] at e; cases e
      | true =>
        rw [c, cond_true] at e
        cases e
        rw [Bool.and_eq_true, Bool.and_eq_true, decide_eq_true_eq] at c
        obtain ⟨v, P, w, R, rfl, h1, h2⟩ := ra.two
        have go : ∀ p ys, w = .ref p → (SqL K H p ys ∨ SqT K H p ys) → (∃ P', Reps K g H xs ys P') → L3.rInA K neg v w H Q := by
          rintro p ys rfl hs ⟨P', hr⟩
          refine ⟨p, ys, toDs xs, toD a, rfl, hs, hr.isL c.1.2, h1.is c.1.1, by rw [deps_D]; exact c.2, ?_⟩
          rw [anyD a c.1.1 xs c.1.2]
          exact k _ _ (New.bl _)
        cases s with
        | lst o ys =>
          simp only [sq, Option.some.injEq] at es
          subst es
          obtain ⟨p, us, P', rfl, ha, hx⟩ := h2.lst
          exact .inr (go p us rfl (.inl (.inl (.inl ha))) ⟨P', hx⟩)
        | tup ys =>
          simp only [sq, Option.some.injEq] at es
          subst es
          obtain ⟨p, us, rfl, ha, hx⟩ := h2.tup
          exact .inr (go p us rfl (.inr ha) ⟨R, hx⟩)
        | mtp ls =>
          simp only [sq, Option.some.injEq] at es
          subst es
          unfold Rep at h2
          obtain ⟨⟨p, rfl, hm⟩, _⟩ := h2
          exact .inr (go p _ rfl (.inr (.inr hm)) ⟨nop, Reps.strsL ls⟩)
        | _ => cases es
    · cases e
  · cases e
def Dt.isNon : Dt → Bool
  | .non => true
  | _ => false
def pIsN (ds : List Dt) : Option Dt := match ds with | [d, .non] => some (.bl d.isNon) | _ => none
def pNotN (ds : List Dt) : Option Dt := match ds with | [d, .non] => some (.bl (!d.isNon)) | _ => none
def bls : List Dt → Option (List Bool)
  | [] => some []
  | .bl b :: ds => (bls ds).map (b :: ·)
  | _ => none
def intsD : List Dt → Option (List Int)
  | [] => some []
  | .int b :: ds => (intsD ds).map (b :: ·)
  | _ => none
def strsD : List Dt → Option (List (List Nat))
  | [] => some []
  | .str b :: ds => (strsD ds).map (b :: ·)
  | _ => none
theorem strsD_rep : ∀ {ds : List Dt} {bs : List (List Nat)} {vs : List V} {P : Fp}, Reps K g H ds vs P → strsD ds = some bs → vs = (bs.map tx).map V.str
  | [], bs, vs, P, h, e => by unfold Reps at h; simp only [strsD, Option.some.injEq] at e; subst e; exact h.1
  | d :: ds, bs, vs, P, h, e => by
    unfold Reps at h
    obtain ⟨v, r, P1, P2, rfl, h1, h2, _⟩ := h
    cases d <;> simp only [strsD, Option.map_eq_some_iff, reduceCtorEq] at e
    obtain ⟨bs', e, rfl⟩ := e
    rw [rep_str h1, strsD_rep h2 e]; rfl
def pAll (ds : List Dt) : Option Dt := match ds with | [.lst _ xs] => (bls xs).map fun bs => .bl (bs.all id) | _ => none
def pAny (ds : List Dt) : Option Dt := match ds with | [.lst _ xs] => (bls xs).map fun bs => .bl (bs.any id) | _ => none
def pSum (ds : List Dt) : Option Dt := match ds with
  | [.lst _ xs] => (intsD xs).map fun ns => .int ns.sum
  | [.tup xs] => (intsD xs).map fun ns => .int ns.sum
  | _ => none
def mxI : List Int → Int
  | [] => 0
  | [a] => a
  | a :: r => max a (mxI r)
def pMaxL (ds : List Dt) : Option Dt := match ds with
  | [.lst _ xs] => match intsD xs with | some (n :: ns) => some (.int (mxI (n :: ns))) | _ => none
  | _ => none
def pMax2 (ds : List Dt) : Option Dt := match ds with | [.int i, .int j] => some (.int (if j > i then j else i)) | _ => none
def pMin2 (ds : List Dt) : Option Dt := match ds with | [.int i, .int j] => some (.int (if j < i then j else i)) | _ => none
theorem pr_max2 : PrimR K pMax2 (fun xs H Q => ∃ i j, xs = [.int i, .int j] ∧ Q (.int (if j > i then j else i)) H) := by
  intro g H ds vs d Q zd ra e k
  unfold pMax2 at e
  split at e
  · rename_i i j
    cases e
    obtain ⟨v, P, w, R, rfl, h1, h2⟩ := ra.two
    rw [rep_int h1, rep_int h2]
    exact ⟨i, j, rfl, k _ _ (New.int _)⟩
  · cases e
theorem pr_min2 : PrimR K pMin2 (fun xs H Q => ∃ i j, xs = [.int i, .int j] ∧ Q (.int (if j < i then j else i)) H) := by
  intro g H ds vs d Q zd ra e k
  unfold pMin2 at e
  split at e
  · rename_i i j
    cases e
    obtain ⟨v, P, w, R, rfl, h1, h2⟩ := ra.two
    rw [rep_int h1, rep_int h2]
    exact ⟨i, j, rfl, k _ _ (New.int _)⟩
  · cases e
def pIntC (ds : List Dt) : Option Dt := match ds with | [.int i] => some (.int i) | [.bl b] => some (.int (if b then 1 else 0)) | _ => none
def figs (i : Int) : List Nat := (toString i : Str).cps.toList
def pStrI (ds : List Dt) : Option Dt := match ds with | [.int i] => if i.natAbs < 2 ^ 64 then some (.str (figs i)) else none | _ => none
theorem pr_strI : PrimR K pStrI (fun xs H Q => ∃ i, xs = [.int i] ∧ i.natAbs.log2 < 1920 ∧ Q (.str (toString i)) H) := by
  intro g H ds vs d Q zd ra e k
  unfold pStrI at e
  split at e
  · rename_i i
    split at e
    · rename_i hi
      cases e
      obtain ⟨v, P, rfl, h1⟩ := ra.one
      rw [rep_int h1]
      refine ⟨i, rfl, ?_, ?_⟩
      · by_cases h0 : i.natAbs = 0
        · rw [h0]; decide
        · exact Nat.lt_trans ((Nat.log2_lt h0).mpr hi) (by decide)
      · have := New.str (K := K) (g := g) (H := H) (figs i)
        unfold figs at this
        rw [← tx_self] at this
        exact k _ _ this
    · cases e
  · cases e
def pTuple (ds : List Dt) : Option Dt := match ds with
  | [.lst _ xs] => bif cps xs then some (.tup xs) else none
  | [.tup xs] => bif cps xs then some (.tup xs) else none
  | _ => none
theorem pr_tuple : PrimR K pTuple (rTupleOf K) := by
  intro g H ds vs d Q zd ra e k
  unfold pTuple at e
  split at e
  · rename_i o xs
    cases c : cps xs with
    | false => rw [c] at e; cases e
    | true =>
      rw [c, cond_true] at e
      cases e
      obtain ⟨v, P, rfl, h1⟩ := ra.one
      obtain ⟨p, us, P', rfl, ha, hx⟩ := h1.lst
      exact ⟨p, us, rfl, .inl ⟨.inl (.inl ha), fun l hl => k _ _ (New.tupNew hl (hx.cp c))⟩⟩
  · rename_i xs
    cases c : cps xs with
    | false => rw [c] at e; cases e
    | true =>
      rw [c, cond_true] at e
      cases e
      obtain ⟨v, P, rfl, h1⟩ := ra.one
      obtain ⟨p, us, rfl, ha, hx⟩ := h1.tup
      exact ⟨p, us, rfl, .inr ⟨ha, k _ _ (New.old (h1.cp (by unfold Dt.cp; exact c)))⟩⟩
  · cases e
def pList (ds : List Dt) : Option Dt := match ds with
  | [.lst _ xs] => bif cps xs then some (.lst true xs) else none
  | [.tup xs] => bif cps xs then some (.lst true xs) else none
  | [.scr ns] => some (.lst true (ns.map .int))
  | _ => none
theorem pr_list : PrimR K pList (rListOf K) := by
  intro g H ds vs d Q zd ra e k
  unfold pList at e
  split at e
  · rename_i o xs
    cases c : cps xs with
    | false => rw [c] at e; cases e
    | true =>
      rw [c, cond_true] at e
      cases e
      obtain ⟨v, P, rfl, h1⟩ := ra.one
      obtain ⟨p, us, P', rfl, ha, hx⟩ := h1.lst
      exact ⟨p, us, rfl, .inl (.inl (.inl ha)), fun l hl => k _ _ (New.lst zd hl (hx.cp c))⟩
  · rename_i xs
    cases c : cps xs with
    | false => rw [c] at e; cases e
    | true =>
      rw [c, cond_true] at e
      cases e
      obtain ⟨v, P, rfl, h1⟩ := ra.one
      obtain ⟨p, us, rfl, ha, hx⟩ := h1.tup
      exact ⟨p, us, rfl, .inr ha, fun l hl => k _ _ (New.lst zd hl (hx.cp c))⟩
  · rename_i ns
    cases e
    obtain ⟨v, P, rfl, h1⟩ := ra.one
    obtain ⟨p, rfl, ha⟩ := h1.scr
    exact ⟨p, _, rfl, .inl ha, fun l hl => k _ _ (New.lst zd hl (Reps.ints ns))⟩
  · cases e
end
end Q
namespace Q
open PySem L2
def Dt.ofTy (T : String) : Dt → Bool
  | .str _ => T == "str"
  | .lst _ _ => T == "list"
  | _ => false
def rfTy (T : String) (o : Om) (m : M) : Bool := match o with
  | .ev _ => true
  | .rf i => match (m.ρ[i]?).join with
    | some d => d.ofTy T
    | none => false
def evMeth (T : String) (p : Pr) (o : Om) (os : List Om) (m : M) : Option (Dt × M) := bif rfTy T o m then do
    let (ds, m1) ← evOms (o :: os) m
    match ds with
    | d :: _ => bif d.ofTy T then (p ds).map fun r => (r, m1) else none
    | _ => none
  else none
def MethR (K : PySem.W.Frag) (p : Pr) (r : V → List V → Hp → VK → Prop) : Prop := PrimR K p fun vs H Q => match vs with | x :: xs => r x xs H Q | _ => False
section
variable {K : PySem.W.Frag} {g : G} {H : Hp} {σ : St}
theorem Rep.tyV {T : String} {d : Dt} {v : V} {P : Fp} (h : Rep K g H d v P) (t : d.ofTy T = true) : L2.tyV K T v H := by
  cases d with
  | str l =>
    rw [rep_str h]
    unfold Dt.ofTy at t
    exact eq_of_beq t
  | lst o xs =>
    obtain ⟨a, us, P', rfl, ha, _⟩ := h.lst
    unfold Dt.ofTy at t
    exact .inl ⟨eq_of_beq t, us, .inl (.inl ha)⟩
  | _ => unfold Dt.ofTy at t; cases t
theorem meth_run {T : String} {p : Pr} {o : Om} {os : List Om} {r : V → List V → Hp → VK → Prop} (hp : MethR K p r) {Q : VK} (h : tq K (evMeth T p o os) σ H Q) : tBM K T r (tOm K o) (tOms K os) σ H Q := by
  obtain ⟨g, m, P, rl, d, m', e, k⟩ := h
  unfold evMeth at e
  cases ct : rfTy T o m with
  | false => rw [ct] at e; cases e
  | true =>
    rw [ct, cond_true] at e
    simp only [Option.bind_eq_bind, Option.bind_eq_some_iff, Prod.exists] at e
    obtain ⟨ds, m1, e1, e⟩ := e
    split at e
    · rename_i d0 dr
      cases c0 : d0.ofTy T with
      | false => rw [c0] at e; cases e
      | true =>
        rw [c0, cond_true] at e
        simp only [Option.map_eq_some_iff, Prod.mk.injEq] at e
        obtain ⟨rr, e2, rfl, rfl⟩ := e
        have fin : ∀ {g' : G} {P' Pv : Fp} {vs : List V} {H' : Hp}, Step g P H g' (fun a => P' a ∨ Pv a) H' → RA K g' H' (d0 :: dr) vs → Rel K g' H' m1 σ P' → match vs with | x :: xs => r x xs H' Q | _ => False := fun {g' P' Pv vs H'} s ra r1 => by
          refine hp g' H' _ vs rr Q r1.zd ra e2 fun v H2 nw => ?_
          obtain ⟨Pw, s2, h1, r2, n2⟩ := New.go s r1 nw
          exact k g' P' Pw v H2 s2 h1 r2 n2
        cases o with
        | ev f =>
          simp only [evOms, Option.bind_eq_bind, Option.bind_eq_some_iff, Option.some.injEq, Prod.mk.injEq, Prod.exists, List.cons.injEq] at e1
          obtain ⟨d1, m2, f1, dr', m3, f2, ⟨rfl, rfl⟩, rfl⟩ := e1
          refine ⟨g, m, P, rl, d1, m2, f1, fun g1 P1 Pv v H1 s1 rv r1 n1 => ⟨rv.tyV c0, oms_run os r1 f2 fun g2 P2 Pw vs H2 s2 rs r2 n2 => ?_⟩⟩
          have hv2 := rv.held s2 r1.fpOk fun a q z => n1 a z q
          have ra : RA K g2 H2 (d1 :: dr') (v :: vs) := by unfold RA; exact ⟨v, vs, Pv, rfl, hv2, RepAs.ra r2 rs⟩
          exact fin (P' := P2) (Pv := fun a => Pw a ∨ Pv a) (s1.trans (s2.frame (R := Pv)) |>.sub (fun _ q => q) fun a q => q.elim (fun q => .inl (.inl q)) fun q => q.elim (fun q => .inl (.inr q)) .inr) ra r2
        | rf i =>
          unfold rfTy at ct
          simp only at ct
          simp only [evOms, Option.bind_eq_bind, Option.bind_eq_some_iff, Option.some.injEq, Prod.mk.injEq, Prod.exists, List.cons.injEq] at e1
          obtain ⟨dd, f0, dr', m3, f2, d1, f3, ⟨rfl, rfl⟩, rfl⟩ := e1
          rw [f0] at ct
          obtain ⟨v, P0, ev, rv, _⟩ := rl.see (join_some f0)
          refine ⟨v, ev, rv.tyV ct, oms_run os rl f2 fun g2 P2 Pw vs H2 s2 rs r2 n2 => ?_⟩
          obtain ⟨v', P3, ev', rv', _⟩ := r2.see (join_some f3)
          rw [ev] at ev'; cases ev'
          have ra : RA K g2 H2 (d1 :: dr') (v :: vs) := by unfold RA; exact ⟨v, vs, P3, rfl, rv', RepAs.ra r2 rs⟩
          exact fin s2 ra r2
    · cases e
end
section
variable {X : Cx} {o e : Expr} {es : List Expr} {oo : Om} {name : Str} {apos cpos : Pos} {T id : String} {p : Pr} {r : V → List V → Hp → VK → Prop} {os : List Om}
theorem q_meth (pa : PlainAttrs T) (slot : Slot T name id) (hty : typeOf (.builtin id) = pure (.type "method_descriptor")) (hm : MtR X id r) (hR : MethR X.K p r) (ho : QO X o oo) (ha : QA X (e :: es) os)
    (hbase : attributeBase o name X.env (eval o X.env) = eval o X.env := by rfl)
    (hfew : ((backTo cpos (starEach (e :: es) X.env)).all (fun x => !x.1) && (backToKw cpos (keywordEach [] X.env)).all (fun x => x.1.isSome)
      && decide ((e :: es).length + ([] : List Keyword).length + (if ([] : List Keyword).isEmpty then 0 else 1) < 30)) = true := by rfl)
    (hline : (apos.endLine == cpos.line) = true := by rfl) (hs : starEach (e :: es) X.env = (false, eval e X.env) :: starEach es X.env := by rfl) (hplain : (backTo cpos (starEach es X.env)).any (·.1) = false := by rfl) : QE X (.Call (.Attribute o name apos) (e :: es) [] cpos) (evMeth T p oo os) := ⟨PE.imp (pe_bmK X.K pa slot hty hm ho.h ha.h hbase hfew hline hs hplain) fun _ _ _ h => meth_run hR h⟩
theorem q_meth0 (pa : PlainAttrs T) (slot : Slot T name id) (hty : typeOf (.builtin id) = pure (.type "method_descriptor")) (hm : MtR X id r) (hR : MethR X.K p r) (ho : QO X o oo)
    (hbase : attributeBase o name X.env (eval o X.env) = eval o X.env := by rfl) (hline : (apos.endLine == cpos.line) = true := by rfl) : QE X (.Call (.Attribute o name apos) [] [] cpos) (evMeth T p oo []) := ⟨PE.imp (pe_bm0K X.K pa slot hty hm ho.h hbase hline) fun _ _ _ h => meth_run (os := []) hR h⟩
end
section
variable {K : PySem.W.Frag}
def pJoin (ds : List Dt) : Option Dt := match ds with
  | [.str sep, .lst _ xs] => match strsD xs with
    | some ys => if (ys.map List.length).sum + ys.length * sep.length ≤ 1000000 then some (.str (jn sep ys)) else none
    | none => none
  | _ => none
theorem pr_join : MethR K pJoin (rJoin K) := by
  intro g H ds vs d Q zd ra e k
  unfold pJoin at e
  split at e
  · split at e
    · rename_i sep o xs _ ys e1
      split at e
      · rename_i hz
        cases e
        obtain ⟨v, P, w, R, rfl, h1, h2⟩ := ra.two
        obtain ⟨a, us, P', rfl, ha, hx⟩ := h2.lst
        rw [rep_str h1]
        rw [strsD_rep hx e1] at ha
        refine ⟨tx sep, a, ys.map tx, rfl, rfl, .inl (.inl ha), ?_, ?_⟩
        · rw [tx_sum, List.length_map, tx_len]; exact Nat.le_trans hz (by decide)
        · rw [tx_jn]; exact k _ _ (New.str _)
      · cases e
    · cases e
  · cases e
def pUpper (ds : List Dt) : Option Dt := match ds with
  | [.str l] => bif l.all (fun c => decide (c < 128)) && decide (l.length ≤ 1000000) then some (.str (l.map PyProof.Rows.up1)) else none
  | _ => none
theorem pr_upper : MethR K pUpper rUpper := by
  intro g H ds vs d Q zd ra e k
  unfold pUpper at e
  split at e
  · rename_i l
    cases c : l.all (fun c => decide (c < 128)) && decide (l.length ≤ 1000000) with
    | false => rw [c] at e; cases e
    | true =>
      rw [c, cond_true] at e
      cases e
      rw [Bool.and_eq_true, decide_eq_true_eq, List.all_eq_true] at c
      obtain ⟨v, P, rfl, h1⟩ := ra.one
      rw [rep_str h1]
      exact ⟨l, rfl, rfl, fun x hx => of_decide_eq_true (c.1 x hx), c.2, k _ _ (New.str _)⟩
  · cases e
def idxT (e : Dt) : List Dt → Option Nat
  | [] => none
  | d :: ds => if eqT d e then some 0 else (idxT e ds).map (· + 1)
def pIndex (ds : List Dt) : Option Dt := match ds with
  | [.lst _ xs, e] => bif e.cmp && cmps xs && decide (deps xs ≤ 150) then (idxT e xs).map fun j => .int (j : Nat) else none
  | _ => none
def pIndexT (ds : List Dt) : Option Dt := match ds with
  | [.tup xs, e] => bif e.cmp && cmps xs && decide (deps xs ≤ 150) then (idxT e xs).map fun j => .int (j : Nat) else none
  | _ => none
def evMethT (p : Pr) (f : Ev Dt) (os : List Om) (m : M) : Option (Dt × M) := do
  let (ds, m1) ← evOms (.ev f :: os) m
  match ds with
  | .tup _ :: _ => (p ds).map fun r => (r, m1)
  | _ => none
end
section
variable {X : Cx} {o e : Expr} {es : List Expr} {f : Ev Dt} {name : Str} {apos cpos : Pos} {id : String} {p : Pr} {r : V → List V → Hp → VK → Prop} {os : List Om}
end
section
variable {K : PySem.W.Frag}
def kindT : Dt → Option String
  | .non => some "NoneType"
  | .bl _ => some "bool"
  | .int _ => some "int"
  | .str _ => some "str"
  | .tup _ => some "tuple"
  | .lst _ _ => some "list"
  | _ => none
def isSub (k T : String) : Bool := k == T || (k == "bool" && T == "int")
def pIsi (ds : List Dt) : Option Dt := match ds with
  | [d, .ty T] => bif ["int", "bool", "str", "tuple", "list"].contains T then (kindT d).map fun k => .bl (isSub k T) else none
  | _ => none
theorem kit_ok (K : PySem.W.Frag) {k T : String} (hk : k ∈ ["NoneType", "bool", "int", "str", "tuple", "list"]) (hT : T ∈ ["int", "bool", "str", "tuple", "list"]) : PySem.W.kitOne K (.type k) (.type T) = some (isSub k T) := by
  simp only [List.mem_cons, List.not_mem_nil, or_false] at hk hT
  rcases hk with rfl | rfl | rfl | rfl | rfl | rfl <;> rcases hT with rfl | rfl | rfl | rfl | rfl <;> kernel_rfl
theorem pr_isi : PrimR K pIsi (rIsi K) := by
  intro g H ds vs d Q zd ra e k
  unfold pIsi at e
  split at e
  · rename_i a T
    cases c : ["int", "bool", "str", "tuple", "list"].contains T with
    | false => rw [c] at e; cases e
    | true =>
      rw [c, cond_true] at e
      have hT : T ∈ ["int", "bool", "str", "tuple", "list"] := by simpa using c
      obtain ⟨v, P, w, R, rfl, h1, h2⟩ := ra.two
      have hw : w = .ty T := by unfold Rep at h2; exact h2.1
      subst hw
      have go : ∀ kd, TyOf K H v (.type kd) → kd ∈ ["NoneType", "bool", "int", "str", "tuple", "list"] → some (Dt.bl (isSub kd T)) = some d → rIsi K [v, .ty T] H Q := fun kd ty hk he => by
        cases he
        exact ⟨v, T, .type kd, _, rfl, ty, kit_ok K hk hT, k _ _ (New.bl _)⟩
      cases a with
      | non => rw [rep_non h1] at go ⊢; exact go "NoneType" .non (by simp) e
      | bl b => rw [rep_bl h1] at go ⊢; exact go "bool" (.bl _) (by simp) e
      | int b => rw [rep_int h1] at go ⊢; exact go "int" (.int _) (by simp) e
      | str b => rw [rep_str h1] at go ⊢; exact go "str" (.str _) (by simp) e
      | tup b => obtain ⟨p, us, rfl, ha, _⟩ := h1.tupH; exact go "tuple" (.tup ha) (by simp) e
      | lst o b => obtain ⟨p, us, P', rfl, ha, _⟩ := h1.lst; exact go "list" (.lst ha) (by simp) e
      | _ => cases e
  · cases e
theorem q_ty {X : Cx} {x : Str} {n : String} {pos : Pos} (h : PE X (.Name x pos) (tC (.ty n))) : QE X (.Name x pos) (evC (.ty n)) := q_c h fun _ _ _ => by unfold Rep; exact ⟨rfl, fun _ z => z⟩
def pLeA (ds : List Dt) : Option Dt := match ds with
  | [.int i, .int j] => some (.bl (decide (i ≤ j)))
  | [.str a, .str b] => some (.bl (!decide (b < a)))
  | _ => none
def pRev (ds : List Dt) : Option Dt := match ds with | [.lst _ xs] => bif cps xs then some (.lst true xs.reverse) else none | _ => none
theorem pr_rev {K : PySem.W.Frag} : PrimR K pRev (fun vs H Q => match vs with | [v] => ∃ a xs, v = .ref a ∧ SqL K H a xs ∧ ∀ l, H l = none → Q (.ref l) (upd H l (.lst xs.reverse)) | _ => False) := by
  intro g H ds vs d Q zd ra e k
  unfold pRev at e
  split at e
  · rename_i o xs
    cases c : cps xs with
    | false => rw [c] at e; cases e
    | true =>
      rw [c, cond_true] at e
      cases e
      obtain ⟨v, P, rfl, h1⟩ := ra.one
      obtain ⟨a, us, P', rfl, ha, hx⟩ := h1.lst
      exact ⟨a, us, rfl, .inl (.inl ha), fun l hl => k _ _ (New.lst zd hl (Reps.revc (hx.cp c)))⟩
  · cases e
def pRevS (ds : List Dt) : Option Dt := match ds with | [.lst _ xs, .int i] => if i = -1 then bif cps xs then some (.lst true xs.reverse) else none else none | _ => none
end
section
variable {X : Cx} {e st : Expr} {oe os : Om} {p1 p2 pos1 pos2 pos : Pos}
theorem q_listRev (hc : X.calm = true) (hgL : Gl X "list") (hmL : X.mg "list" = none) (hgR : Gl X "reversed") (hmR : X.mg "reversed" = none) (he : QO X e oe)
    (hs1 : starEach [.Call (.Name "reversed" p2) [e] [] pos2] X.env = (false, eval (.Call (.Name "reversed" p2) [e] [] pos2) X.env) :: starEach [] X.env := by rfl)
    (hpl1 : (backTo pos1 (starEach [] X.env)).any (·.1) = false := by rfl)
    (hs2 : starEach [e] X.env = (false, eval e X.env) :: starEach [] X.env := by rfl)
    (hpl2 : (backTo pos2 (starEach [] X.env)).any (·.1) = false := by rfl) : QE X (.Call (.Name "list" p1) [.Call (.Name "reversed" p2) [e] [] pos2] [] pos1) (evPrim pRev [oe]) := ⟨PE.imp (pe_listRev hc hgL hmL hgR hmR he.h hs1 hpl1 hs2 hpl2) fun _ _ _ h => prim_run pr_rev h⟩
end
end Q
namespace Q
open PySem L2
def evFz (f : Ev Dt) (m : M) : Option (Dt × M) := do
  let (d, m') ← f m
  some (d.fz, m')
section
variable {X : Cx} {e : Expr} {f : Ev Dt} {io : List Nat} {pos pos' : Pos} {i : Nat} {x : Str}
theorem q_fz (h : QE X e f) : QE X e (evFz f) := ⟨PE.imp h.h fun σ H Q q => by
  obtain ⟨g, m, P, r, d, m', e, k⟩ := q
  simp only [evFz, Option.bind_eq_bind, Option.bind_eq_some_iff, Prod.exists, Option.some.injEq, Prod.mk.injEq] at e
  obtain ⟨d1, m1, e1, rfl, rfl⟩ := e
  refine ⟨g, m, P, r, d1, m1, e1, fun g' P' Pv v H' s rv r1 n => ?_⟩
  have st : Step g' Pv H' (g'.add Pv) nop H' := Step.freeze rv.fpOk
  refine k (g'.add Pv) P' nop v H' ?_ (rv.freeze (fun _ q => q) fun a q => (rv.fpOk a q).1) (r1.held st rv.fpOk fun a q z => n a q z) fun _ _ z => z
  exact s.trans ((st.frame (R := P')).sub (fun a q => q.symm) fun a q => q.elim .inr fun z => z.elim)⟩
def evAug (i : Nat) (f : Int → Int → Int) (fe : Ev Dt) (m : M) : Option (Fl × M) := match (m.ρ[i]?).join with
  | some (.int a) => do
    let (d, m') ← fe m
    match d with
    | .int b => if i < m'.ρ.length then some (.nx, m'.set i (some (.int (f a b)))) else none
    | _ => none
  | _ => none
end
abbrev FUEL : Nat := 1000000
theorem op_inS {X : Cx} : OpR X (compareOp .In) (rInS false) := op_in_str
theorem op_inQ {X : Cx} {j : Nat} (hr : Room j X.A) : OpR X (compareOp .In) (rInQ X.K false) := op_inS.or (L3.op_inA hr)
def spLaw (K : PySem.W.Frag) : Sp := fun vs H Q _ => ∃ (a : Addr) (ns : List Int), vs = [.ref a] ∧ SqL K H a (ns.map V.int) ∧ ns.length ≤ 63 ∧ Only H ∧ ∀ H', Q (.bl true) H'
theorem law_of {P : Program} {w : World} {K : PySem.W.Frag} {mg : Str → Option Value} {base : Heap} {k : Nat} {f : Addr} {fd : FuncData} {x : Str} {Φ : Fn} (F : FnOk P w K mg base CX0 k f fd [x] (spq K 1 [] Φ)) (h : ∀ ns : List Int, ns.length ≤ 63 → Φ [.scr ns] [] = some (.bl true, [], [])) :
    FnOk P w K mg base CX0 k f fd [x] (spLaw K) := F.imp fun vs H Q E q => by
  obtain ⟨a, ns, rfl, hS, hn, hO, q⟩ := q
  have hs : Scr K H a ns := by
    rcases hS with (h1 | h1) | h1
    · rcases hO a with z | ⟨o, xs, z⟩
      · rw [h1] at z; cases z
      · rw [h1] at z; cases z
    · exact .inl h1
    · exact .inr h1
  refine ⟨⟨fun _ => False, []⟩, [.scr ns], [], nop, nop, rfl, fun _ z => z.elim, ?_, ⟨rfl, fun _ z => z⟩, fun _ z => z.elim, _, _, _, h ns hn, fun g' H' v Pv Pb Ps' _ _ rv _ _ _ _ _ => by rw [rep_bl rv]; exact q H'⟩
  refine (Reps.cons (v := .ref a) (P1 := nop) (by unfold Rep; exact ⟨⟨a, rfl, hs⟩, fun _ z => z⟩) Reps.nil fun _ z => z.elim).iff fun a => ⟨fun z => z.elim, fun z => z.elim id id⟩
end Q
namespace Q
open PySem L2
theorem forL_from {α : Type} {tg : Tg} {b : Es} (enc : α → Dt) (I : Nat → M → Prop) : ∀ (as : List α) (k : Nat) (m : M), I k m →
    (∀ (i : Nat) (a : α) (m : M), as[i]? = some a → I (k + i) m → ∃ m1 m2 fl, tg (enc a) m = some m1 ∧ b m1 = some (fl, m2) ∧ (fl = .nx ∨ fl = .ct) ∧ I (k + i + 1) m2) →
    ∃ m', forL tg b (as.map enc) m = some (.nx, m') ∧ I (k + as.length) m'
  | [], k, m, h, _ => ⟨m, rfl, h⟩
  | a :: as, k, m, h, st => by
    obtain ⟨m1, m2, fl, e1, e2, hf, h2⟩ := st 0 a m rfl h
    obtain ⟨m', e3, h3⟩ := forL_from enc I as (k + 1) m2 h2 fun i x m hx hi => by
      have := st (i + 1) x m (by simpa using hx) (by rw [← Nat.add_assoc, Nat.add_right_comm]; exact hi)
      rw [← Nat.add_assoc, Nat.add_right_comm k i 1] at this
      exact this
    refine ⟨m', ?_, by rw [List.length_cons, ← Nat.add_assoc, Nat.add_right_comm]; exact h3⟩
    rcases hf with rfl | rfl <;> simp only [List.map_cons, forL, e1, e2, e3, Option.bind_eq_bind, Option.bind_some]
theorem forL_idx {α : Type} {tg : Tg} {b : Es} (enc : α → Dt) (I : Nat → M → Prop) (as : List α) (m : M) (h : I 0 m)
    (st : ∀ (i : Nat) (a : α) (m : M), as[i]? = some a → I i m → ∃ m1 m2 fl, tg (enc a) m = some m1 ∧ b m1 = some (fl, m2) ∧ (fl = .nx ∨ fl = .ct) ∧ I (i + 1) m2) :
    ∃ m', forL tg b (as.map enc) m = some (.nx, m') ∧ I as.length m' := by
  have := forL_from enc I as 0 m h fun i a m e hi => by
    have q := st i a m e (by simpa using hi)
    simpa using q
  simpa using this
theorem forL_range {tg : Tg} {b : Es} (lo : Int) (n : Nat) (I : Nat → M → Prop) (m : M) (h : I 0 m)
    (st : ∀ (i : Nat) (m : M), i < n → I i m → ∃ m1 m2 fl, tg (.int (lo + (i : Nat))) m = some m1 ∧ b m1 = some (fl, m2) ∧ (fl = .nx ∨ fl = .ct) ∧ I (i + 1) m2) :
    ∃ m', forL tg b ((List.range n).map fun k => .int (lo + (k : Nat))) m = some (.nx, m') ∧ I n m' := by
  have := forL_idx (tg := tg) (b := b) (fun k : Nat => Dt.int (lo + (k : Nat))) I (List.range n) m h fun i a m e hi => by
    have hl : i < n := by have := (List.getElem?_eq_some_iff.mp e).1; simpa using this
    rw [List.getElem?_range hl] at e
    cases e
    exact st i m hl hi
  simpa using this
theorem compL_from {α : Type} {js : List Nat} {tg : Tg} {f : Ev Dt} (enc : α → Dt) (I : Nat → M → Prop) (R : Nat → α → Dt → Prop) : ∀ (as : List α) (k : Nat) (m : M), I k m →
    (∀ (i : Nat) (a : α) (m : M), as[i]? = some a → I (k + i) m → ∃ m1 x m2, tg (enc a) (m.blank js) = some m1 ∧ f m1 = some (x, m2) ∧ I (k + i + 1) m2 ∧ R (k + i) a x) →
    ∃ xs m', compL js tg f (as.map enc) m = some (xs, m') ∧ I (k + as.length) m' ∧ xs.length = as.length ∧ ∀ (i : Nat) (a : α) (x : Dt), as[i]? = some a → xs[i]? = some x → R (k + i) a x
  | [], k, m, h, _ => ⟨[], m, rfl, h, rfl, fun i a x e _ => by simp at e⟩
  | a :: as, k, m, h, st => by
    obtain ⟨m1, x, m2, e1, e2, h2, r⟩ := st 0 a m rfl h
    obtain ⟨xs, m', e3, h3, hl, hr⟩ := compL_from (f := f) (js := js) (tg := tg) enc I R as (k + 1) m2 h2 fun i x m hx hi => by
      have := st (i + 1) x m (by simpa using hx) (by rw [← Nat.add_assoc, Nat.add_right_comm]; exact hi)
      rw [← Nat.add_assoc, Nat.add_right_comm k i 1] at this
      exact this
    refine ⟨x :: xs, m', ?_, by rw [List.length_cons, ← Nat.add_assoc, Nat.add_right_comm]; exact h3, by simp [hl], fun i a' x' ea ex => ?_⟩
    · simp only [List.map_cons, compL, e1, e2, e3, Option.bind_eq_bind, Option.bind_some]
    · cases i with
      | zero => simp at ea ex; subst ea ex; exact r
      | succ i =>
        have := hr i a' x' (by simpa using ea) (by simpa using ex)
        rw [← Nat.add_assoc, Nat.add_right_comm]; exact this
theorem compL_idx {α : Type} {js : List Nat} {tg : Tg} {f : Ev Dt} (enc : α → Dt) (I : Nat → M → Prop) (R : Nat → α → Dt → Prop) (as : List α) (m : M) (h : I 0 m)
    (st : ∀ (i : Nat) (a : α) (m : M), as[i]? = some a → I i m → ∃ m1 x m2, tg (enc a) (m.blank js) = some m1 ∧ f m1 = some (x, m2) ∧ I (i + 1) m2 ∧ R i a x) :
    ∃ xs m', compL js tg f (as.map enc) m = some (xs, m') ∧ I as.length m' ∧ xs.length = as.length ∧ ∀ (i : Nat) (a : α) (x : Dt), as[i]? = some a → xs[i]? = some x → R i a x := by
  have := compL_from (js := js) (tg := tg) (f := f) enc I R as 0 m h fun i a m e hi => by
    have q := st i a m e (by simpa using hi)
    simpa using q
  simpa using this
theorem compL_range {js : List Nat} {tg : Tg} {f : Ev Dt} (lo : Int) (n : Nat) (I : Nat → M → Prop) (R : Nat → Dt → Prop) (m : M) (h : I 0 m)
    (st : ∀ (i : Nat) (m : M), i < n → I i m → ∃ m1 x m2, tg (.int (lo + (i : Nat))) (m.blank js) = some m1 ∧ f m1 = some (x, m2) ∧ I (i + 1) m2 ∧ R i x) :
    ∃ xs m', compL js tg f ((List.range n).map fun k => .int (lo + (k : Nat))) m = some (xs, m') ∧ I n m' ∧ xs.length = n ∧ ∀ (i : Nat) (x : Dt), xs[i]? = some x → R i x := by
  obtain ⟨xs, m', e, hi, hl, hr⟩ := compL_idx (js := js) (tg := tg) (f := f) (fun k : Nat => Dt.int (lo + (k : Nat))) I (fun i _ x => R i x) (List.range n) m h fun i a m e hi => by
    have hl : i < n := by have := (List.getElem?_eq_some_iff.mp e).1; simpa using this
    rw [List.getElem?_range hl] at e
    cases e
    exact st i m hl hi
  rw [List.length_range] at hi hl
  refine ⟨xs, m', e, hi, hl, fun i x ex => hr i i x ?_ ex⟩
  have : i < n := by rw [← hl]; exact (List.getElem?_eq_some_iff.mp ex).1
  rw [List.getElem?_range this]
theorem choose_list {α : Type} {P : Nat → α → Dt → Prop} {enc : α → Dt} : ∀ (xs : List Dt) (k : Nat), (∀ (i : Nat) (x : Dt), xs[i]? = some x → ∃ a, x = enc a ∧ P (k + i) a x) → ∃ as : List α, xs = as.map enc ∧ ∀ (i : Nat) (a : α), as[i]? = some a → P (k + i) a (enc a)
  | [], k, _ => ⟨[], rfl, fun i a e => by simp at e⟩
  | x :: xs, k, h => by
    obtain ⟨a, ea, pa⟩ := h 0 x rfl
    obtain ⟨as, e, p⟩ := choose_list xs (k + 1) fun i y ey => by
      have := h (i + 1) y (by simpa using ey)
      rw [← Nat.add_assoc, Nat.add_right_comm] at this
      exact this
    refine ⟨a :: as, by rw [List.map_cons, ← ea, ← e], fun i b eb => ?_⟩
    cases i with
    | zero => simp at eb; subst eb; rw [← ea]; exact pa
    | succ i =>
      have := p i b (by simpa using eb)
      rw [← Nat.add_assoc, Nat.add_right_comm]; exact this
theorem choose0 {α : Type} {P : Nat → α → Prop} {enc : α → Dt} (xs : List Dt) (h : ∀ (i : Nat) (x : Dt), xs[i]? = some x → ∃ a, x = enc a ∧ P i a) : ∃ as : List α, xs = as.map enc ∧ ∀ (i : Nat) (a : α), as[i]? = some a → P i a := by
  obtain ⟨as, e, p⟩ := choose_list (P := fun i a _ => P i a) (enc := enc) xs 0 fun i x ex => by
    obtain ⟨a, ea, pa⟩ := h i x ex
    exact ⟨a, ea, by simpa using pa⟩
  exact ⟨as, e, fun i a ea => by simpa using p i a ea⟩
abbrev fdD (a b : Int) : Dt := .lst true [.int a, .int b]
@[simp] theorem cps_nil : cps [] = true := rfl
@[simp] theorem cps_cons (d : Dt) (ds : List Dt) : cps (d :: ds) = (d.cp && cps ds) := by simp only [cps]
@[simp] theorem cps_app (xs ys : List Dt) : cps (xs ++ ys) = (cps xs && cps ys) := by
  induction xs with
  | nil => simp
  | cons x xs ih => simp [ih, Bool.and_assoc]
theorem cps_of {ds : List Dt} (h : ∀ d ∈ ds, d.cp = true) : cps ds = true := by
  induction ds with
  | nil => rfl
  | cons d ds ih => rw [cps_cons, h d List.mem_cons_self, ih fun x hx => h x (List.mem_cons_of_mem _ hx)]; rfl
theorem cps_mem {ds : List Dt} (h : cps ds = true) {d : Dt} (hd : d ∈ ds) : d.cp = true := by
  obtain ⟨i, hi, rfl⟩ := List.getElem_of_mem hd
  exact cps_get h (List.getElem?_eq_getElem hi)
theorem cps_map {α : Type} {f : α → Dt} (h : ∀ a, (f a).cp = true) (as : List α) : cps (as.map f) = true := cps_of fun d hd => by
  obtain ⟨a, _, rfl⟩ := List.mem_map.mp hd
  exact h a
@[simp] theorem cps_int (ns : List Int) : cps (ns.map Dt.int) = true := cps_map (fun _ => rfl) ns
@[simp] theorem cps_str (ns : List (List Nat)) : cps (ns.map Dt.str) = true := cps_map (fun _ => rfl) ns
@[simp] theorem cp_non : Dt.non.cp = true := rfl
@[simp] theorem cp_int (i : Int) : (Dt.int i).cp = true := rfl
@[simp] theorem cp_bl (i : Bool) : (Dt.bl i).cp = true := rfl
@[simp] theorem cp_str (i : List Nat) : (Dt.str i).cp = true := rfl
@[simp] theorem cp_scr (i : List Int) : (Dt.scr i).cp = true := rfl
@[simp] theorem cp_tup (xs : List Dt) : (Dt.tup xs).cp = cps xs := by simp only [Dt.cp]
@[simp] theorem cp_lst (o : Bool) (xs : List Dt) : (Dt.lst o xs).cp = (!o && cps xs) := by simp only [Dt.cp]
mutual
theorem fz_cp : ∀ (d : Dt), d.cp = true → d.fz = d
  | .non, _ => by simp only [Dt.fz]
  | .bl _, _ => by simp only [Dt.fz]
  | .int _, _ => by simp only [Dt.fz]
  | .str _, _ => by simp only [Dt.fz]
  | .tup xs, h => by simp only [Dt.fz]; rw [fzs_cp xs (by simpa using h)]
  | .lst o xs, h => by
    simp only [cp_lst, Bool.and_eq_true, Bool.not_eq_true'] at h
    simp only [Dt.fz]
    rw [fzs_cp xs h.2, h.1]
  | .dic _ _, _ => by simp only [Dt.fz]
  | .ref _, _ => by simp only [Dt.fz]
  | .scr _, _ => by simp only [Dt.fz]
  | .ty _, _ => by simp only [Dt.fz]
  | .mtp _, _ => by simp only [Dt.fz]
theorem fzs_cp : ∀ (ds : List Dt), cps ds = true → fzs ds = ds
  | [], _ => by simp only [fzs]
  | d :: ds, h => by
    rw [cps_cons, Bool.and_eq_true] at h
    simp only [fzs]
    rw [fz_cp d h.1, fzs_cp ds h.2]
end
theorem fz_lst {o : Bool} {xs : List Dt} (h : cps xs = true) : (Dt.lst o xs).fz = .lst false xs := by simp only [Dt.fz]; rw [fzs_cp xs h]
@[simp] theorem fz_int (i : Int) : (Dt.int i).fz = .int i := by simp only [Dt.fz]
@[simp] theorem cmps_nil : cmps [] = true := rfl
@[simp] theorem cmps_cons (d : Dt) (ds : List Dt) : cmps (d :: ds) = (d.cmp && cmps ds) := by simp only [cmps]
theorem cmps_of {ds : List Dt} (h : ∀ d ∈ ds, d.cmp = true) : cmps ds = true := by
  induction ds with
  | nil => rfl
  | cons d ds ih => rw [cmps_cons, h d List.mem_cons_self, ih fun x hx => h x (List.mem_cons_of_mem _ hx)]; rfl
theorem cmps_map {α : Type} {f : α → Dt} (h : ∀ a, (f a).cmp = true) (as : List α) : cmps (as.map f) = true := cmps_of fun d hd => by
  obtain ⟨a, _, rfl⟩ := List.mem_map.mp hd
  exact h a
@[simp] theorem cmps_int (ns : List Int) : cmps (ns.map Dt.int) = true := cmps_map (fun _ => rfl) ns
@[simp] theorem cmps_str (ns : List (List Nat)) : cmps (ns.map Dt.str) = true := cmps_map (fun _ => rfl) ns
@[simp] theorem cmp_non : Dt.non.cmp = true := rfl
@[simp] theorem cmp_int (i : Int) : (Dt.int i).cmp = true := rfl
@[simp] theorem cmp_bl (i : Bool) : (Dt.bl i).cmp = true := rfl
@[simp] theorem cmp_str (i : List Nat) : (Dt.str i).cmp = true := rfl
@[simp] theorem cmp_tup (xs : List Dt) : (Dt.tup xs).cmp = cmps xs := by simp only [Dt.cmp]
@[simp] theorem cmp_lst (o : Bool) (xs : List Dt) : (Dt.lst o xs).cmp = cmps xs := by simp only [Dt.cmp]
@[simp] theorem dep_non : Dt.non.dep = 0 := rfl
@[simp] theorem dep_int (i : Int) : (Dt.int i).dep = 0 := rfl
@[simp] theorem dep_bl (i : Bool) : (Dt.bl i).dep = 0 := rfl
@[simp] theorem dep_str (i : List Nat) : (Dt.str i).dep = 0 := rfl
@[simp] theorem dep_tup (xs : List Dt) : (Dt.tup xs).dep = deps xs + 1 := by simp only [Dt.dep]
@[simp] theorem dep_lst (o : Bool) (xs : List Dt) : (Dt.lst o xs).dep = deps xs + 1 := by simp only [Dt.dep]
@[simp] theorem deps_nil : deps [] = 0 := rfl
@[simp] theorem deps_cons (d : Dt) (ds : List Dt) : deps (d :: ds) = max d.dep (deps ds) := by simp only [deps]
theorem deps_le {ds : List Dt} {n : Nat} (h : ∀ d ∈ ds, d.dep ≤ n) : deps ds ≤ n := by
  induction ds with
  | nil => simp
  | cons d ds ih => rw [deps_cons]; exact Nat.max_le.mpr ⟨h d List.mem_cons_self, ih fun x hx => h x (List.mem_cons_of_mem _ hx)⟩
@[simp] theorem deps_int (ns : List Int) : deps (ns.map Dt.int) = 0 := Nat.le_zero.mp (deps_le fun d hd => by obtain ⟨a, _, rfl⟩ := List.mem_map.mp hd; exact Nat.le_refl _)
@[simp] theorem deps_str (ns : List (List Nat)) : deps (ns.map Dt.str) = 0 := Nat.le_zero.mp (deps_le fun d hd => by obtain ⟨a, _, rfl⟩ := List.mem_map.mp hd; exact Nat.le_refl _)
@[simp] theorem eqT_int (a b : Int) : eqT (.int a) (.int b) = (a == b) := by simp only [eqT]
@[simp] theorem eqT_str (a b : List Nat) : eqT (.str a) (.str b) = (a == b) := by simp only [eqT]
@[simp] theorem eqT_bl (a b : Bool) : eqT (.bl a) (.bl b) = (a == b) := by simp only [eqT]
@[simp] theorem eqT_tup (a b : List Dt) : eqT (.tup a) (.tup b) = eqTs a b := by simp only [eqT]
@[simp] theorem eqT_lst (o o' : Bool) (a b : List Dt) : eqT (.lst o a) (.lst o' b) = eqTs a b := by simp only [eqT]
@[simp] theorem eqT_str_tup (a : List Nat) (b : List Dt) : eqT (.str a) (.tup b) = false := by simp only [eqT]
@[simp] theorem eqT_tup_str (a : List Nat) (b : List Dt) : eqT (.tup b) (.str a) = false := by simp only [eqT]
@[simp] theorem eqT_int_tup (a : Int) (b : List Dt) : eqT (.int a) (.tup b) = false := by simp only [eqT]
@[simp] theorem eqT_tup_int (a : Int) (b : List Dt) : eqT (.tup b) (.int a) = false := by simp only [eqT]
@[simp] theorem eqT_int_str (a : Int) (b : List Nat) : eqT (.int a) (.str b) = false := by simp only [eqT]
@[simp] theorem eqT_str_int (a : Int) (b : List Nat) : eqT (.str b) (.int a) = false := by simp only [eqT]
@[simp] theorem eqT_non (d : Dt) : eqT .non d = d.isNon := by cases d <;> simp only [eqT, Dt.isNon]
@[simp] theorem eqTs_nil : eqTs [] [] = true := by simp only [eqTs]
@[simp] theorem eqTs_cons (a b : Dt) (x y : List Dt) : eqTs (a :: x) (b :: y) = (eqT a b && eqTs x y) := by simp only [eqTs]
@[simp] theorem eqTs_nil_cons (b : Dt) (y : List Dt) : eqTs [] (b :: y) = false := by simp only [eqTs]
@[simp] theorem eqTs_cons_nil (b : Dt) (y : List Dt) : eqTs (b :: y) [] = false := by simp only [eqTs]
mutual
def Dt.pl : Dt → Bool
  | .non => true
  | .int _ => true
  | .str _ => true
  | .tup xs => pls xs
  | _ => false
def pls : List Dt → Bool
  | [] => true
  | d :: ds => d.pl && pls ds
end
@[simp] theorem intsD_map (ns : List Int) : intsD (ns.map Dt.int) = some ns := by
  induction ns with
  | nil => rfl
  | cons n ns ih => simp [intsD, ih]
@[simp] theorem strsD_map (ns : List (List Nat)) : strsD (ns.map Dt.str) = some ns := by
  induction ns with
  | nil => rfl
  | cons n ns ih => simp [strsD, ih]
@[simp] theorem bls_map (ns : List Bool) : bls (ns.map Dt.bl) = some ns := by
  induction ns with
  | nil => rfl
  | cons n ns ih => simp [bls, ih]
theorem atI_nat' {α : Type} (xs : List α) (i : Nat) (h : i < xs.length) : atI xs (i : Int) = some xs[i] := by
  unfold atI ixN
  simp [h]
theorem atI_int {α : Type} (xs : List α) (i : Int) (h0 : 0 ≤ i) (h1 : i < xs.length) : atI xs i = some (xs[i.toNat]'(by omega)) := by
  have := atI_nat' xs i.toNat (by omega)
  rwa [Int.toNat_of_nonneg h0] at this
end Q
set_option maxHeartbeats 2000000
namespace Q
open PySem L2
theorem forR {tg : Tg} {b : Es} (lo : Int) (n : Nat) (I : Nat → M → Prop) (m : M) (h : I 0 m)
    (st : ∀ (i : Nat) (m : M), i < n → I i m → ∃ fl m2, ((tg (.int (lo + (i : Nat))) m).bind b) = some (fl, m2) ∧ (fl = .nx ∨ fl = .ct) ∧ I (i + 1) m2) :
    ∃ m', forL tg b ((List.range n).map fun k => .int (lo + (k : Nat))) m = some (.nx, m') ∧ I n m' :=
  forL_range lo n I m h fun i m hi hm => by
    obtain ⟨fl, m2, e, hf, h2⟩ := st i m hi hm
    obtain ⟨m1, e1, e2⟩ := Option.bind_eq_some_iff.mp e
    exact ⟨m1, m2, fl, e1, e2, hf, h2⟩
theorem forR0 {tg : Tg} {b : Es} (n : Nat) (I : Nat → M → Prop) (m : M) (h : I 0 m)
    (st : ∀ (i : Nat) (m : M), i < n → I i m → ∃ fl m2, ((tg (.int (i : Nat)) m).bind b) = some (fl, m2) ∧ (fl = .nx ∨ fl = .ct) ∧ I (i + 1) m2) :
    ∃ m', forL tg b ((List.range n).map fun k => .int (k : Nat)) m = some (.nx, m') ∧ I n m' := by
  have := forR (tg := tg) (b := b) 0 n I m h (by simpa using st)
  simpa using this
theorem forX {α : Type} {tg : Tg} {b : Es} (enc : α → Dt) (I : Nat → M → Prop) (as : List α) (m : M) (h : I 0 m)
    (st : ∀ (i : Nat) (a : α) (m : M), as[i]? = some a → I i m → ∃ fl m2, ((tg (enc a) m).bind b) = some (fl, m2) ∧ (fl = .nx ∨ fl = .ct) ∧ I (i + 1) m2) :
    ∃ m', forL tg b (as.map enc) m = some (.nx, m') ∧ I as.length m' :=
  forL_idx enc I as m h fun i a m ha hm => by
    obtain ⟨fl, m2, e, hf, h2⟩ := st i a m ha hm
    obtain ⟨m1, e1, e2⟩ := Option.bind_eq_some_iff.mp e
    exact ⟨m1, m2, fl, e1, e2, hf, h2⟩
theorem forP {α : Type} {tg : Tg} {b : Es} (enc : α → Dt) (I : List α → M → Prop) (as : List α) (m : M) (h : I [] m)
    (st : ∀ (pre : List α) (a : α) (m : M), pre ++ [a] <+: as → I pre m → ∃ fl m2, ((tg (enc a) m).bind b) = some (fl, m2) ∧ (fl = .nx ∨ fl = .ct) ∧ I (pre ++ [a]) m2) :
    ∃ m', forL tg b (as.map enc) m = some (.nx, m') ∧ I as m' := by
  have := forX (tg := tg) (b := b) enc (fun i m => I (as.take i) m) as m (by simpa using h) fun i a m ha hm => by
    have hi := (List.getElem?_eq_some_iff.mp ha).1
    have e : as.take (i + 1) = as.take i ++ [a] := by rw [List.take_add_one, ha]; rfl
    have := st (as.take i) a m (by rw [← e]; exact List.take_prefix _ _) hm
    rw [e]; exact this
  simpa using this
theorem compR {α : Type} {js : List Nat} {tg : Tg} {f : Ev Dt} (enc : α → Dt) (lo : Int) (n : Nat) (I : Nat → M → Prop) (P : Nat → α → Prop) (m : M) (h : I 0 m)
    (st : ∀ (i : Nat) (m : M), i < n → I i m → ∃ a m2, ((tg (.int (lo + (i : Nat))) (m.blank js)).bind f) = some (enc a, m2) ∧ I (i + 1) m2 ∧ P i a) :
    ∃ (as : List α) (m' : M), compL js tg f ((List.range n).map fun k => .int (lo + (k : Nat))) m = some (as.map enc, m') ∧ I n m' ∧ as.length = n ∧ ∀ (i : Nat) (a : α), as[i]? = some a → P i a := by
  obtain ⟨xs, m', e, hi, hl, hr⟩ := compL_range (js := js) (tg := tg) (f := f) lo n I (fun i x => ∃ a, x = enc a ∧ P i a) m h fun i m hi hm => by
    obtain ⟨a, m2, e, h2, p⟩ := st i m hi hm
    obtain ⟨m1, e1, e2⟩ := Option.bind_eq_some_iff.mp e
    exact ⟨m1, _, m2, e1, e2, h2, a, rfl, p⟩
  obtain ⟨as, rfl, hp⟩ := choose0 (enc := enc) (P := P) xs hr
  exact ⟨as, m', e, hi, by simpa using hl, hp⟩
theorem compR0 {α : Type} {js : List Nat} {tg : Tg} {f : Ev Dt} (enc : α → Dt) (n : Nat) (I : Nat → M → Prop) (P : Nat → α → Prop) (m : M) (h : I 0 m)
    (st : ∀ (i : Nat) (m : M), i < n → I i m → ∃ a m2, ((tg (.int (i : Nat)) (m.blank js)).bind f) = some (enc a, m2) ∧ I (i + 1) m2 ∧ P i a) :
    ∃ (as : List α) (m' : M), compL js tg f ((List.range n).map fun k => .int (k : Nat)) m = some (as.map enc, m') ∧ I n m' ∧ as.length = n ∧ ∀ (i : Nat) (a : α), as[i]? = some a → P i a := by
  have := compR (js := js) (tg := tg) (f := f) enc 0 n I P m h (by simpa using st)
  simpa using this
theorem compX {α β : Type} {js : List Nat} {tg : Tg} {f : Ev Dt} (enc : α → Dt) (out : β → Dt) (I : Nat → M → Prop) (P : Nat → α → β → Prop) (as : List α) (m : M) (h : I 0 m)
    (st : ∀ (i : Nat) (a : α) (m : M), as[i]? = some a → I i m → ∃ y m2, ((tg (enc a) (m.blank js)).bind f) = some (out y, m2) ∧ I (i + 1) m2 ∧ P i a y) :
    ∃ (ys : List β) (m' : M), compL js tg f (as.map enc) m = some (ys.map out, m') ∧ I as.length m' ∧ ys.length = as.length ∧ ∀ (i : Nat) (a : α) (y : β), as[i]? = some a → ys[i]? = some y → P i a y := by
  obtain ⟨xs, m', e, hi, hl, hr⟩ := compL_idx (js := js) (tg := tg) (f := f) enc I (fun i a x => ∃ y, x = out y ∧ P i a y) as m h fun i a m ha hm => by
    obtain ⟨y, m2, e, h2, p⟩ := st i a m ha hm
    obtain ⟨m1, e1, e2⟩ := Option.bind_eq_some_iff.mp e
    exact ⟨m1, _, m2, e1, e2, h2, y, rfl, p⟩
  obtain ⟨ys, rfl, hp⟩ := choose0 (enc := out) (P := fun i y => ∀ a, as[i]? = some a → P i a y) xs fun i x ex => by
    have hlt : i < as.length := by rw [← hl]; exact (List.getElem?_eq_some_iff.mp ex).1
    obtain ⟨y, e, p⟩ := hr i _ x (List.getElem?_eq_getElem hlt) ex
    exact ⟨y, e, fun a ea => by rw [List.getElem?_eq_getElem hlt] at ea; cases ea; exact p⟩
  exact ⟨ys, m', e, hi, by simpa using hl, fun i a y ea ey => hp i y ey a ea⟩
theorem compF {α : Type} {js : List Nat} {tg : Tg} {f : Ev Dt} (enc : α → Dt) (F : α → Dt) (I : M → Prop) (as : List α) (m : M) (h : I m)
    (st : ∀ (a : α) (m : M), a ∈ as → I m → ∃ m2, ((tg (enc a) (m.blank js)).bind f) = some (F a, m2) ∧ I m2) :
    ∃ m', compL js tg f (as.map enc) m = some (as.map F, m') ∧ I m' := by
  obtain ⟨ys, m', e, hi, hl, hp⟩ := compX (js := js) (tg := tg) (f := f) enc id (fun _ m => I m) (fun _ a y => y = F a) as m h fun i a m ha hm => by
    obtain ⟨m2, e, h2⟩ := st a m (List.mem_of_getElem? ha) hm
    exact ⟨F a, m2, e, h2, rfl⟩
  refine ⟨m', ?_, hi⟩
  rw [e, List.map_id]
  congr 2
  apply List.ext_getElem
  · simp [hl]
  · intro i h1 h2
    have hi : i < as.length := by simpa using h2
    rw [List.getElem_map]
    exact hp i _ _ (List.getElem?_eq_getElem hi) (List.getElem?_eq_getElem h1)
theorem ite_nle {α : Type} {a b : Nat} {x y : α} (h : a ≤ b) : (if a ≤ b then x else y) = x := if_pos h
theorem ite_nlt {α : Type} {a b : Nat} {x y : α} (h : a < b) : (if a < b then x else y) = x := if_pos h
theorem ite_ile {α : Type} {a b : Int} {x y : α} (h : a ≤ b) : (if a ≤ b then x else y) = x := if_pos h
theorem ite_ilt {α : Type} {a b : Int} {x y : α} (h : a < b) : (if a < b then x else y) = x := if_pos h
theorem ite_nle' {α : Type} {a b : Nat} {x y : α} (h : ¬ a ≤ b) : (if a ≤ b then x else y) = y := if_neg h
theorem ite_nlt' {α : Type} {a b : Nat} {x y : α} (h : ¬ a < b) : (if a < b then x else y) = y := if_neg h
theorem ite_ile' {α : Type} {a b : Int} {x y : α} (h : ¬ a ≤ b) : (if a ≤ b then x else y) = y := if_neg h
theorem ite_ilt' {α : Type} {a b : Int} {x y : α} (h : ¬ a < b) : (if a < b then x else y) = y := if_neg h
theorem bif_ile {α : Type} {a b c d : Int} {x y : α} (h : a ≤ b ∧ c ≤ d) : (bif decide (a ≤ b) && decide (c ≤ d) then x else y) = x := by simp [h]
end Q
set_option maxHeartbeats 2000000
namespace Q
open PySem L2
@[simp] theorem atI_map' {α β : Type} (f : α → β) (xs : List α) (i : Int) : atI (xs.map f) i = (atI xs i).map f := by
  unfold atI
  rw [List.length_map]
  cases ixN xs.length i with
  | none => rfl
  | some j => simp
@[simp] theorem atI_0 {α : Type} (a : α) (l : List α) : atI (a :: l) 0 = some a := by
  have := atI_nat' (a :: l) 0 (by simp); simpa using this
@[simp] theorem atI_1 {α : Type} (a b : α) (l : List α) : atI (a :: b :: l) 1 = some b := by
  have := atI_nat' (a :: b :: l) 1 (by simp); simpa using this
@[simp] theorem atI_2 {α : Type} (a b c : α) (l : List α) : atI (a :: b :: c :: l) 2 = some c := by
  have := atI_nat' (a :: b :: c :: l) 2 (by simp); simpa using this
@[simp] theorem atI_3 {α : Type} (a b c d : α) (l : List α) : atI (a :: b :: c :: d :: l) 3 = some d := by
  have := atI_nat' (a :: b :: c :: d :: l) 3 (by simp); simpa using this
theorem atI_some {α : Type} {xs : List α} {i : Nat} {x : α} (h : xs[i]? = some x) : atI xs (i : Int) = some x := by
  have hi := (List.getElem?_eq_some_iff.mp h)
  rw [atI_nat' xs i hi.1, hi.2]
theorem atI_getI {α : Type} {xs : List α} {i : Int} {x : α} (h0 : 0 ≤ i) (h : xs[i.toNat]? = some x) : atI xs i = some x := by
  have := atI_some h
  rwa [Int.toNat_of_nonneg h0] at this
theorem sIx_some {n k : Nat} {i : Int} (h : 0 ≤ i) : HT.sIx n k (some i) = min i.toNat n := by
  show (if i < 0 then _ else min i.toNat n) = _
  rw [if_neg (by omega)]
theorem cutA_to {α : Type} (xs : List α) {k : Int} (h : 0 ≤ k) : cutA xs none (some k) = xs.take k.toNat := by
  unfold cutA
  rw [sIx_some h]
  show List.take (min k.toNat xs.length - 0) (List.drop 0 xs) = _
  rw [List.drop_zero, Nat.sub_zero]
  rcases Nat.le_total k.toNat xs.length with z | z
  · rw [Nat.min_eq_left z]
  · rw [Nat.min_eq_right z, List.take_length, List.take_of_length_le z]
theorem cutA_from {α : Type} (xs : List α) {k : Int} (h : 0 ≤ k) : cutA xs (some k) none = xs.drop k.toNat := by
  unfold cutA
  rw [sIx_some h]
  show List.take (xs.length - _) (List.drop (min k.toNat xs.length) xs) = _
  rcases Nat.le_total k.toNat xs.length with z | z
  · rw [Nat.min_eq_left z, List.take_of_length_le (by rw [List.length_drop]; omega)]
  · rw [Nat.min_eq_right z, List.drop_eq_nil_of_le z, List.drop_length]; simp
theorem cps_sub {xs ys : List Dt} (h : cps ys = true) (s : ∀ x ∈ xs, x ∈ ys) : cps xs = true := cps_of fun d hd => cps_mem h (s d hd)
theorem nodup_ne {α : Type} {as : List α} (h : as.Nodup) {i j : Nat} {a b : α} (hj : j < i) (ha : as[i]? = some a) (hb : as[j]? = some b) : b ≠ a := by
  intro e
  subst e
  obtain ⟨h1, e1⟩ := List.getElem?_eq_some_iff.mp ha
  obtain ⟨h2, e2⟩ := List.getElem?_eq_some_iff.mp hb
  have := (List.getElem_inj h).mp (e1.trans e2.symm)
  omega
theorem mem_get {α : Type} {P : Nat → α → Prop} {as : List α} (h : ∀ (i : Nat) (a : α), as[i]? = some a → P i a) {a : α} (ha : a ∈ as) : ∃ i, as[i]? = some a ∧ P i a := by
  obtain ⟨i, hi, e⟩ := List.getElem_of_mem ha
  have e' : as[i]? = some a := by rw [List.getElem?_eq_getElem hi, e]
  exact ⟨i, e', h i a e'⟩
theorem all_get {α : Type} {P : α → Prop} {as : List α} (h : ∀ (i : Nat) (a : α), as[i]? = some a → P a) : ∀ a ∈ as, P a := fun a ha => (mem_get h ha).elim fun _ z => z.2
theorem nodup_get {α : Type} {as : List α} (h : ∀ (i j : Nat) (a : α), i < j → as[i]? = some a → as[j]? = some a → False) : as.Nodup :=
  L2.nodup_of fun i j hij hj e => by
    have e1 := List.getElem?_eq_getElem (l := as) (i := i) (by omega)
    exact h i j _ hij e1 (by rw [← e, e1])
theorem big_s {i : Int} (h : -1000000000000 ≤ i) (h' : i ≤ 1000000000000) : big i = true := by
  unfold big
  rw [decide_eq_true (Int.lt_of_lt_of_le (by decide) h), decide_eq_true (Int.lt_of_le_of_lt h' (by decide))]
  rfl
end Q
namespace L2
open PySem PySem.Spec PyProof.Rows
section
variable {X : Cx} {tg iter elt cnd : Expr} {scope : Scope} {pos : Pos} {g : TG} {te : TE} {tc : TT} {js : List Nat} {wi : TI}
end
end L2
namespace Q
open PySem L2
section
variable {X : Cx} {tg iter elt cnd : Expr} {scope : Scope} {pos : Pos} {g : TG} {ft : Tg} {c : Ev Bool} {f : Ev Dt} {js : List Nat} {src : Ev (List Dt)}
end
end Q
namespace Q
open PySem L2
section
variable {K : PySem.W.Frag} {g : G} {H : Hp}
end
section
variable {X : Cx} {elts : List Expr} {x1 : Nat} {tpos p pos : Pos} {e : Expr} {f : Ev Dt}
end
end Q
namespace Q
open PySem L2
def evFmt (f : Ev Dt) (m : M) : Option (Dt × M) := do
  let (d, m1) ← f m
  match d with
  | .str l => if l.length ≤ 1000000 then some (.str l, m1) else none
  | .int i => if i.natAbs < 2 ^ 64 then some (.str (figs i), m1) else none
  | _ => none
def evJ : List (Ev Dt) → List Nat → M → Option (Dt × M)
  | [], acc, m => if acc.length ≤ 1000000 then some (.str acc, m) else none
  | f :: fs, acc, m => do
    let (d, m1) ← f m
    match d with
    | .str z => if acc.length + z.length ≤ 1000000 then evJ fs (acc ++ z) m1 else none
    | _ => none
section
variable {X : Cx} {e : Expr} {f : Ev Dt} {es : List Expr} {fs : List (Ev Dt)} {pos : Pos}
theorem rep_str_mk {K : PySem.W.Frag} {g : G} {H : Hp} (b : List Nat) : Rep K g H (.str b) (.str (tx b)) nop := by unfold Rep; exact ⟨rfl, fun _ z => z⟩
theorem figs_tx (i : Int) : toString i = tx (figs i) := (tx_cs _)
theorem q_fv (h : QE X e f) : QE X (.FormattedValue e (-1) none pos) (evFmt f) := ⟨PE.imp (pe_fv h.h) fun σ H Q q => by
  obtain ⟨g, m, P, r, d, m', e, k⟩ := q
  simp only [evFmt, Option.bind_eq_bind, Option.bind_eq_some_iff, Prod.exists] at e
  obtain ⟨d1, m1, e1, e⟩ := e
  refine ⟨g, m, P, r, d1, m1, e1, fun g' P' Pv v H' s rv r1 n => ?_⟩
  split at e
  · rename_i l
    split at e
    · rename_i hl
      simp only [Option.some.injEq, Prod.mk.injEq] at e
      obtain ⟨rfl, rfl⟩ := e
      have ev := rep_str rv
      subst ev
      exact .inl ⟨_, rfl, by rw [tx_len]; exact Nat.le_trans hl (by decide), k g' P' Pv _ H' s rv r1 n⟩
    · cases e
  · rename_i i
    split at e
    · rename_i hi
      simp only [Option.some.injEq, Prod.mk.injEq] at e
      obtain ⟨rfl, rfl⟩ := e
      have ev := rep_int rv
      subst ev
      refine .inr ⟨i, rfl, ?_, ?_⟩
      · by_cases h0 : i.natAbs = 0
        · rw [h0]; decide
        · exact Nat.lt_trans ((Nat.log2_lt h0).mpr hi) (by decide)
      · rw [figs_tx i]
        exact k g' P' nop _ H' (s.sub (fun _ q => q) fun _ q => q.elim .inl False.elim) (rep_str_mk _) r1 fun _ _ z => z
    · cases e
  · cases e⟩
theorem j_run {K : PySem.W.Frag} : ∀ (fs : List (Ev Dt)) (acc : List Nat) {σ : St} {H : Hp} {Q : VK}, tq K (evJ fs acc) σ H Q → tJ (fs.map (tq K)) (tx acc) σ H Q
  | [], acc, σ, H, Q, q => by
    obtain ⟨g, m, P, r, d, m', e, k⟩ := q
    simp only [evJ] at e
    split at e
    · rename_i hl
      simp only [Option.some.injEq, Prod.mk.injEq] at e
      obtain ⟨rfl, rfl⟩ := e
      exact ⟨by rw [tx_len]; exact Nat.le_trans hl (by decide), k g P nop _ H (Step.refl.sub (fun _ q => q) fun _ q => q.elim id False.elim) (rep_str_mk _) r fun _ _ z => z⟩
    · cases e
  | f :: fs, acc, σ, H, Q, q => by
    obtain ⟨g, m, P, r, d, m', e, k⟩ := q
    simp only [evJ, Option.bind_eq_bind, Option.bind_eq_some_iff, Prod.exists] at e
    obtain ⟨d1, m1, e1, e⟩ := e
    show tq K f σ H _
    refine ⟨g, m, P, r, d1, m1, e1, fun g' P' Pv v H' s rv r1 n => ?_⟩
    split at e
    · rename_i z
      split at e
      · rename_i hl
        have ev := rep_str rv
        subst ev
        refine ⟨_, rfl, by rw [tx_app, tx_len, List.length_append]; exact Nat.le_trans hl (by decide), ?_⟩
        rw [tx_app]
        have s' : Step g P H g' P' H' := s.sub (fun _ q => q) fun _ q => .inl q
        exact j_run fs (acc ++ z) ⟨g', m1, P', r1, d, m', e, fun g2 P2 Pv2 v2 H2 s2 rv2 r2 n2 => k g2 P2 Pv2 v2 H2 (s'.trans s2) rv2 r2 n2⟩
      · cases e
    · cases e
structure QJ (X : Cx) (es : List Expr) (fs : List (Ev Dt)) : Prop where
  h : PJ X es (fs.map (tq X.K))
theorem qj_nil : QJ X [] [] := ⟨pj_nil⟩
theorem qj_cons (he : QE X e f) (ht : QJ X es fs) : QJ X (e :: es) (f :: fs) := ⟨pj_cons he.h ht.h⟩
theorem q_joined {e2 : Expr} {rest : List Expr} (h : QJ X (e :: e2 :: rest) fs) : QE X (.JoinedStr (e :: e2 :: rest) pos) (evJ fs []) := ⟨PE.imp (pe_joined h.h) fun σ H Q q => by
  have := j_run fs [] q
  exact this⟩
end
end Q
namespace My
open PySem L2 Q
abbrev St := L2.St
noncomputable def rLFeed : Fn := fnRun 4 []
    (evSq (evAsg (evPrim pAdd [.ev (evPrim pMul [.ev (evC (.int 7907)), .rf 1]), .ev (evC (.int 13579))]) (tgN 2))
    (evSq (evIf (tstB (evPrim pLt [.rf 1, .ev (evPrim pLen [.rf 0])])) (evAsg (evPrim pIdx [.rf 0, .rf 1]) (tgN 2)) (evIf (tstB (evPrim pGt [.ev (evPrim pLen [.rf 0]), .ev (evC (.int 0))])) (evAsg (evPrim pAdd [.ev (evPrim pMul [.ev (evPrim pMod [.ev (evPrim pIdx [.rf 0, .ev (evPrim pMod [.rf 1, .ev (evPrim pLen [.rf 0])])]), .ev (evC (.int 2147483629))]), .ev (evC (.int 31))]), .ev (evPrim pMul [.ev (evC (.int 7907)), .rf 1])]) (tgN 2)) (evSkip)))
    (evSq (evAsg (evC (.int 0)) (tgN 3))
    (evSq (evIf (tstB (evPrim pGe [.rf 2, .ev (evPrim pPow [.ev (evC (.int 10)), .ev (evC (.int 18))])])) (evAsg (evVar 2) (tgN 3)) (evSkip))
    (evRet (evSeq (.lst true) [.ev (evVar 3), .ev (evPrim pAdd [.ev (evPrim pMod [.ev (evPrim pAdd [.ev (evPrim pMul [.ev (evPrim pMod [.rf 2, .ev (evC (.int 2147483629))]), .ev (evC (.int 48271))]), .ev (evPrim pMul [.ev (evC (.int 40692)), .rf 1])]), .ev (evC (.int 2147483646))]), .ev (evC (.int 1))])]))))))
noncomputable def rLTake : Fn := fnRun 4 [0]
    (evSq (evIf (tstB (evPrim pGt [.ev (evPrim pIdx [.rf 0, .ev (evC (.int 0))]), .ev (evC (.int 0))])) (evSq (evAsg (evPrim pMod [.ev (evPrim pIdx [.rf 0, .ev (evC (.int 0))]), .rf 1]) (tgN 3))
    (evSq (evSetIx 0 (evPrim pDiv [.ev (evPrim pIdx [.rf 0, .ev (evC (.int 0))]), .rf 1]) (.ev (evC (.int 0))))
    (evRet (evMov 3)))) (evSkip))
    (evSq (evAsg (evPrim pMod [.ev (evPrim pMul [.ev (evPrim pIdx [.rf 0, .ev (evC (.int 1))]), .ev (evC (.int 48271))]), .ev (evC (.int 2147483647))]) (tgN 2))
    (evSq (evSetIx 0 (evPrim pAdd [.ev (evPrim pMod [.ev (evPrim pAdd [.ev (evPrim pMul [.rf 2, .ev (evC (.int 40692))]), .ev (evC (.int 30103))]), .ev (evC (.int 2147483399))]), .ev (evC (.int 1))]) (.ev (evC (.int 1))))
    (evRet (evPrim pMod [.ev (evPrim pDiv [.ev (evPrim pAdd [.ev (evPrim pMul [.rf 2, .ev (evC (.int 2147483647))]), .ev (evPrim pIdx [.rf 0, .ev (evC (.int 1))])]), .ev (evC (.int 8191))]), .rf 1])))))
noncomputable def cLNames1 : Ev Dt :=
    evPrim pIdx [.rf 2, .ev (evCall rLTake 2 [0] [.rf 0, .ev (evC (.int 26))])]
noncomputable def bLNames1 : Es :=
    evSq (evAsg (evPrim pIdx [.rf 2, .ev (evPrim pMod [.ev (evPrim pAdd [.rf 4, .ev (evPrim pMul [.ev (evC (.int 7)), .rf 8])]), .ev (evC (.int 26))])]) (tgN 9))
    (evSq (evAsg (evPrim pAdd [.ev (evPrim pAdd [.ev (evSlH (.rf 3) (.ev (evVar 5))), .rf 9]), .ev (evSlB (.rf 3) (.ev (evVar 5)) (.ev (evPrim pMod [.ev (evPrim pAdd [.rf 6, .rf 8]), .ev (evC (.int 4))])))]) (tgN 10))
    (evSq (evIf (tstB (evPrim pIn [.rf 10, .ev (evSeq .tup [.ev (evC (.str [100, 101, 102])), .ev (evC (.str [108, 101, 116])), .ev (evC (.str [116, 101, 108, 108])), .ev (evC (.str [108, 111, 111, 112])), .ev (evC (.str [112, 105, 99, 107])), .ev (evC (.str [99, 97, 108, 108]))])])) (evAsg (evPrim pAdd [.rf 10, .ev (evC (.str [113]))]) (tgN 10)) (evSkip))
    (evDrop (evMut 7 muAppend [.ev (evVar 10)]))))
noncomputable def rLNames : Fn := fnRun 11 [0]
    (evSq (evAsg (evC (.str [97, 98, 99, 100, 101, 102, 103, 104, 105, 106, 107, 108, 109, 110, 111, 112, 113, 114, 115, 116, 117, 118, 119, 120, 121, 122])) (tgN 2))
    (evSq (evAsg (evMeth "str" pJoin (.ev (evC (.str []))) [.ev (evComp (evRng1 (.ev (evCall rLTake 2 [0] [.rf 0, .ev (evC (.int 4))]))) [8] (tgN 8) cLNames1)]) (tgN 3))
    (evSq (evPar 4 5 [.ev (evCall rLTake 2 [0] [.rf 0, .ev (evC (.int 26))]), .ev (evCall rLTake 2 [0] [.rf 0, .ev (evPrim pAdd [.ev (evPrim pLen [.rf 3]), .ev (evC (.int 1))])])])
    (evSq (evAsg (evCall rLTake 2 [0] [.rf 0, .ev (evC (.int 4))]) (tgN 6))
    (evSq (evAsg (evSeq (.lst true) []) (tgN 7))
    (evSq (evFor (evRng1 (.rf 1)) (tgN 8) bLNames1)
    (evSq (evIf (evAnd (tstB (evPrim pGt [.rf 1, .ev (evC (.int 1))])) (evAnd (tstB (evPrim pLt [.ev (evPrim pLen [.ev (evPrim pIdx [.rf 7, .ev (evPrim pNeg [.ev (evC (.int 2))])])]), .ev (evC (.int 4))])) (tstB (evPrim pEq [.ev (evCall rLTake 2 [0] [.rf 0, .ev (evC (.int 4))]), .ev (evC (.int 0))])))) (evSetIx 7 (evPrim pAdd [.ev (evPrim pIdx [.rf 7, .ev (evPrim pNeg [.ev (evC (.int 2))])]), .ev (evC (.str [113]))]) (.ev (evPrim pNeg [.ev (evC (.int 1))]))) (evSkip))
    (evRet (evMov 7)))))))))
noncomputable def bLPool1 : Es :=
    evSetIx 1 (evPrim pIdx [.rf 2, .ev (evCall rLTake 2 [0] [.rf 0, .ev (evC (.int 19))])]) (.ev (evCall rLTake 2 [0] [.rf 0, .ev (evC (.int 8))]))
noncomputable def cLPool1 : Ev Dt :=
    evPrim pAdd [.ev (evMeth "str" pUpper (.ev (evSlH (.rf 5) (.ev (evC (.int 1))))) []), .ev (evSlL (.rf 5) (.ev (evC (.int 1))))]
noncomputable def rLPool : Fn := fnRun 6 [0]
    (evSq (evAsg (evCall rLNames 2 [0] [.rf 0, .ev (evC (.int 8))]) (tgN 1))
    (evSq (evAsg (evSeq (.lst true) [.ev (evC (.str [108, 101, 116, 115])), .ev (evC (.str [108, 101, 116, 108, 101, 116])), .ev (evC (.str [100, 101, 102, 115])), .ev (evC (.str [116, 101, 108, 108, 115])), .ev (evC (.str [116, 101, 108, 108, 109, 101])), .ev (evC (.str [108, 111, 111, 112, 115])), .ev (evC (.str [108, 111, 111, 112, 101, 100])), .ev (evC (.str [112, 105, 99, 107, 115])), .ev (evC (.str [112, 105, 99, 107, 101, 114])), .ev (evC (.str [99, 97, 108, 108, 115])), .ev (evC (.str [99, 97, 108, 108, 101, 100]))]) (tgN 2))
    (evSq (evAsg (evPrim pAdd [.rf 2, .ev (evSeq (.lst true) [.ev (evC (.str [119, 111, 114, 108, 100, 115])), .ev (evC (.str [115, 104, 97, 112, 101, 115])), .ev (evC (.str [105, 110, 112, 117, 116])), .ev (evC (.str [105, 110, 112, 117, 116, 120])), .ev (evC (.str [97, 98, 99, 100, 101, 102])), .ev (evC (.str [118, 119, 120, 121, 122])), .ev (evC (.str [105, 110, 108, 101, 116])), .ev (evC (.str [114, 101, 100, 101, 102]))])]) (tgN 2))
    (evSq (evFor (evRng1 (.ev (evCall rLTake 2 [0] [.rf 0, .ev (evC (.int 5))]))) (tgN 3) bLPool1)
    (evSq (evAsg (evComp (evItems (evCall rLNames 2 [0] [.rf 0, .ev (evC (.int 4))])) [5] (tgN 5) cLPool1) (tgN 4))
    (evSq (evSetIx 4 (evPrim pIdx [.ev (evSeq (.lst true) [.ev (evFz (evC (.str [76, 101, 116]))), .ev (evFz (evC (.str [73, 110, 112, 117, 116, 115]))), .ev (evFz (evC (.str [65, 98, 99, 100, 101, 102]))), .ev (evFz (evC (.str [87, 111, 114, 108, 100]))), .ev (evFz (evC (.str [90])))]), .ev (evCall rLTake 2 [0] [.rf 0, .ev (evC (.int 5))])]) (.ev (evCall rLTake 2 [0] [.rf 0, .ev (evC (.int 4))])))
    (evRet (evSeq .tup [.ev (evVar 1), .ev (evVar 4)]))))))))
noncomputable def cLShape1 : Ev Dt :=
    evPrim pAdd [.ev (evMeth "str" pUpper (.ev (evSlH (.rf 5) (.ev (evC (.int 1))))) []), .ev (evSlL (.rf 5) (.ev (evC (.int 1))))]
noncomputable def cLShape2 : Ev Dt :=
    evSeq .tup [.ev (evPrim pIdx [.rf 3, .rf 6]), .ev (evPrim pAdd [.ev (evC (.int 1)), .ev (evCall rLTake 2 [0] [.rf 0, .ev (evC (.int 2))])])]
noncomputable def rLShape : Fn := fnRun 7 [0]
    (evSq (evAsg (evCall rLNames 2 [0] [.rf 0, .ev (evC (.int 4))]) (tgN 1))
    (evSq (evAsg (evComp (evItems (evSlH (.rf 1) (.ev (evCall rLTake 2 [0] [.rf 0, .ev (evC (.int 4))])))) [5] (tgN 5) cLShape1) (tgN 2))
    (evSq (evAsg (evCall rLNames 2 [0] [.rf 0, .ev (evC (.int 3))]) (tgN 3))
    (evSq (evAsg (evComp (evRng1 (.ev (evPrim pIdx [.ev (evSeq (.lst true) [.ev (evFz (evC (.int 1))), .ev (evFz (evC (.int 2))), .ev (evFz (evC (.int 3))), .ev (evFz (evC (.int 2))), .ev (evFz (evC (.int 3))), .ev (evFz (evC (.int 1))), .ev (evFz (evC (.int 2))), .ev (evFz (evC (.int 0)))]), .ev (evCall rLTake 2 [0] [.rf 0, .ev (evC (.int 8))])]))) [6] (tgN 6) cLShape2) (tgN 4))
    (evRet (evSeq .tup [.ev (evPrim pTuple [.rf 2]), .ev (evPrim pTuple [.rf 4])]))))))
noncomputable def rLNumber : Nat → Fn
  | 0 => fun _ _ => none
  | n + 1 => fnRun 5 [0]
    (evSq (evAsg (evCall rLTake 2 [0] [.rf 0, .ev (evC (.int 5))]) (tgN 3))
    (evSq (evIf (evAnd (tstB (evPrim pGt [.rf 3, .ev (evC (.int 2))])) (tstB (evPrim pGt [.rf 2, .ev (evC (.int 2))]))) (evSq (evAsg (evCall (rLNumber n) 3 [0] [.rf 0, .ev (evVar 1), .ev (evPrim pDiv [.ev (evPrim pSub [.rf 2, .ev (evC (.int 1))]), .ev (evC (.int 2))])]) (tgN 4))
    (evRet (evSeq .tup [.ev (evC (.str [111, 112])), .ev (evPrim pIdx [.ev (evC (.str [43, 42, 58, 60])), .ev (evCall rLTake 2 [0] [.rf 0, .ev (evC (.int 4))])]), .ev (evVar 4), .ev (evCall (rLNumber n) 3 [0] [.rf 0, .ev (evVar 1), .ev (evPrim pDiv [.ev (evPrim pSub [.rf 2, .ev (evC (.int 1))]), .ev (evC (.int 2))])])]))) (evSkip))
    (evSq (evIf (tstB (evPrim pEq [.rf 3, .ev (evC (.int 0))])) (evRet (evSeq .tup [.ev (evC (.str [99, 111, 117, 110, 116])), .ev (evPrim pIdx [.ev (evPrim pIdx [.rf 1, .ev (evC (.int 0))]), .ev (evCall rLTake 2 [0] [.rf 0, .ev (evC (.int 8))])])])) (evSkip))
    (evRet (evSeq .tup [.ev (evC (.str [110, 117, 109])), .ev (evPrim pIdx [.ev (evSeq (.lst true) [.ev (evFz (evCall rLTake 2 [0] [.rf 0, .ev (evC (.int 12))])), .ev (evFz (evCall rLTake 2 [0] [.rf 0, .ev (evC (.int 1000000))])), .ev (evFz (evC (.int 999999)))]), .ev (evCall rLTake 2 [0] [.rf 0, .ev (evC (.int 3))])])])))))
noncomputable def rLLeaf : Fn := fnRun 2 [0]
    (evSq (evIf (tstB (evPrim pEq [.ev (evCall rLTake 2 [0] [.rf 0, .ev (evC (.int 3))]), .ev (evC (.int 0))])) (evRet (evSeq .tup [.ev (evC (.str [102, 105, 120, 101, 100])), .ev (evPrim pIdx [.ev (evPrim pIdx [.rf 1, .ev (evC (.int 1))]), .ev (evCall rLTake 2 [0] [.rf 0, .ev (evC (.int 4))])])])) (evSkip))
    (evRet (evSeq .tup [.ev (evC (.str [110, 97, 109, 101])), .ev (evPrim pIdx [.ev (evPrim pIdx [.rf 1, .ev (evC (.int 0))]), .ev (evCall rLTake 2 [0] [.rf 0, .ev (evC (.int 8))])])])))
noncomputable def cLRow1 (qLTerm : Fn) : Ev Dt :=
    evCall qLTerm 4 [0] [.rf 0, .ev (evVar 1), .ev (evPrim pDiv [.rf 2, .ev (evPrim pMax2 [.rf 4, .ev (evC (.int 1))])]), .ev (evPrim pSub [.rf 3, .ev (evC (.int 1))])]
noncomputable def bLArgs1 (qLTerm : Fn) : Es :=
    evIf (tstB (evPrim pEq [.ev (evCall rLTake 2 [0] [.rf 0, .ev (evC (.int 2))]), .ev (evC (.int 0))])) (evDrop (evMut 5 muAppend [.ev (evCall (rLNumber 70) 3 [0] [.rf 0, .ev (evVar 1), .ev (evPrim pMin2 [.ev (evC (.int 7)), .ev (evPrim pDiv [.rf 2, .rf 4])])])])) (evDrop (evMut 5 muAppend [.ev (evCall qLTerm 4 [0] [.rf 0, .ev (evVar 1), .ev (evPrim pDiv [.rf 2, .rf 4]), .ev (evPrim pSub [.rf 3, .ev (evC (.int 1))])])]))
mutual
noncomputable def rLRow : Nat → Fn
  | 0 => fun _ _ => none
  | n + 1 => fnRun 6 [0]
    (evRet (evPrim pTuple [.ev (evComp (evRng1 (.rf 4)) [5] (tgN 5) (cLRow1 (rLTerm n)))]))
noncomputable def rLArgs : Nat → Fn
  | 0 => fun _ _ => none
  | n + 1 => fnRun 7 [0]
    (evSq (evAsg (evPrim pMin2 [.ev (evCall rLTake 2 [0] [.rf 0, .ev (evC (.int 4))]), .rf 2]) (tgN 4))
    (evSq (evAsg (evSeq (.lst true) []) (tgN 5))
    (evSq (evFor (evRng1 (.rf 4)) (tgN 6) (bLArgs1 (rLTerm n)))
    (evRet (evPrim pTuple [.rf 5])))))
noncomputable def rLTerm : Nat → Fn
  | 0 => fun _ _ => none
  | n + 1 => fnRun 7 [0]
    (evSq (evAsg (evCall rLTake 2 [0] [.rf 0, .ev (evC (.int 9))]) (tgN 4))
    (evSq (evIf (evOr (tstB (evPrim pLt [.rf 3, .ev (evC (.int 1))])) (evOr (tstB (evPrim pEq [.rf 4, .ev (evC (.int 0))])) (tstB (evPrim pLt [.rf 2, .ev (evC (.int 5))])))) (evRet (evCall rLLeaf 2 [0] [.rf 0, .ev (evVar 1)])) (evSkip))
    (evSq (evIf (tstB (evPrim pLt [.rf 4, .ev (evC (.int 3))])) (evRet (evSeq .tup [.ev (evC (.str [100, 111])), .ev (evPrim pIdx [.ev (evPrim pIdx [.rf 1, .ev (evC (.int 0))]), .ev (evCall rLTake 2 [0] [.rf 0, .ev (evC (.int 8))])]), .ev (evCall (rLRow n) 5 [0] [.rf 0, .ev (evVar 1), .ev (evPrim pSub [.rf 2, .ev (evC (.int 1))]), .ev (evVar 3), .ev (evPrim pAdd [.ev (evC (.int 1)), .ev (evCall rLTake 2 [0] [.rf 0, .ev (evC (.int 3))])])])])) (evSkip))
    (evSq (evIf (tstB (evPrim pEq [.rf 4, .ev (evC (.int 3))])) (evSq (evAsg (evCall (rLRow n) 5 [0] [.rf 0, .ev (evVar 1), .ev (evPrim pSub [.rf 2, .ev (evC (.int 1))]), .ev (evVar 3), .ev (evC (.int 2))]) (tgN 5))
    (evRet (evSeq .tup [.ev (evC (.str [108, 101, 116])), .ev (evPrim pIdx [.ev (evPrim pIdx [.rf 1, .ev (evC (.int 0))]), .ev (evCall rLTake 2 [0] [.rf 0, .ev (evC (.int 8))])]), .ev (evPrim pIdx [.rf 5, .ev (evC (.int 0))]), .ev (evPrim pIdx [.rf 5, .ev (evC (.int 1))])]))) (evSkip))
    (evSq (evIf (tstB (evPrim pLt [.rf 4, .ev (evC (.int 6))])) (evSq (evAsg (evCall (rLNumber 70) 3 [0] [.rf 0, .ev (evVar 1), .ev (evPrim pMin2 [.ev (evC (.int 7)), .ev (evPrim pDiv [.ev (evPrim pSub [.rf 2, .ev (evC (.int 1))]), .ev (evC (.int 3))])])]) (tgN 6))
    (evSq (evAsg (evCall (rLRow n) 5 [0] [.rf 0, .ev (evVar 1), .ev (evPrim pDiv [.ev (evPrim pMul [.ev (evPrim pSub [.rf 2, .ev (evC (.int 1))]), .ev (evC (.int 2))]), .ev (evC (.int 3))]), .ev (evVar 3), .ev (evC (.int 2))]) (tgN 5))
    (evRet (evSeq .tup [.ev (evC (.str [108, 111, 111, 112])), .ev (evPrim pIdx [.ev (evPrim pIdx [.rf 1, .ev (evC (.int 0))]), .ev (evCall rLTake 2 [0] [.rf 0, .ev (evC (.int 8))])]), .ev (evVar 6), .ev (evPrim pIdx [.ev (evPrim pIdx [.rf 1, .ev (evC (.int 0))]), .ev (evCall rLTake 2 [0] [.rf 0, .ev (evC (.int 8))])]), .ev (evPrim pIdx [.rf 5, .ev (evC (.int 0))]), .ev (evPrim pIdx [.rf 5, .ev (evC (.int 1))])])))) (evSkip))
    (evSq (evIf (tstB (evPrim pEq [.rf 4, .ev (evC (.int 6))])) (evSq (evAsg (evCall (rLNumber 70) 3 [0] [.rf 0, .ev (evVar 1), .ev (evPrim pMin2 [.ev (evC (.int 7)), .ev (evPrim pDiv [.ev (evPrim pSub [.rf 2, .ev (evC (.int 1))]), .ev (evC (.int 3))])])]) (tgN 6))
    (evRet (evSeq .tup [.ev (evC (.str [112, 105, 99, 107])), .ev (evVar 6), .ev (evCall (rLRow n) 5 [0] [.rf 0, .ev (evVar 1), .ev (evPrim pDiv [.ev (evPrim pMul [.ev (evPrim pSub [.rf 2, .ev (evC (.int 1))]), .ev (evC (.int 2))]), .ev (evC (.int 3))]), .ev (evVar 3), .ev (evPrim pAdd [.ev (evC (.int 1)), .ev (evCall rLTake 2 [0] [.rf 0, .ev (evC (.int 2))])])])]))) (evSkip))
    (evRet (evSeq .tup [.ev (evC (.str [99, 97, 108, 108])), .ev (evPrim pIdx [.ev (evPrim pIdx [.rf 1, .ev (evC (.int 0))]), .ev (evCall rLTake 2 [0] [.rf 0, .ev (evC (.int 8))])]), .ev (evCall (rLArgs n) 4 [0] [.rf 0, .ev (evVar 1), .ev (evPrim pSub [.rf 2, .ev (evC (.int 1))]), .ev (evVar 3)])]))))))))
end
noncomputable def bBracketed1 : Es :=
    evSq (evDrop (evMut 3 muAppend [.ev (evC (.str [32]))]))
    (evDrop (evMut 3 muAppend [.ev (evVar 4)]))
noncomputable def rBracketed : Fn := fnRun 5 []
    (evSq (evAsg (evSeq (.lst true) [.ev (evVar 0), .ev (evPrim pIdx [.rf 1, .ev (evC (.int 0))])]) (tgN 3))
    (evSq (evFor (evItems (evSlL (.rf 1) (.ev (evC (.int 1))))) (tgN 4) bBracketed1)
    (evSq (evDrop (evMut 3 muAppend [.ev (evVar 2)]))
    (evRet (evMov 3)))))
noncomputable def rWordsOf : Fn := fnRun 2 []
    (evSq (evAsg (evPrim pIdx [.rf 0, .ev (evC (.int 0))]) (tgN 1))
    (evSq (evIf (tstB (evPrim pEq [.rf 1, .ev (evC (.str [108, 101, 116]))])) (evRet (evSeq (.lst true) [.ev (evC (.str [108, 101, 116])), .ev (evPrim pIdx [.rf 0, .ev (evC (.int 1))]), .ev (evPrim pIdx [.rf 0, .ev (evC (.int 2))]), .ev (evPrim pIdx [.rf 0, .ev (evC (.int 3))])])) (evSkip))
    (evSq (evIf (tstB (evPrim pEq [.rf 1, .ev (evC (.str [108, 111, 111, 112]))])) (evRet (evSeq (.lst true) [.ev (evC (.str [108, 111, 111, 112])), .ev (evPrim pAdd [.ev (evC (.str [35])), .ev (evPrim pIdx [.rf 0, .ev (evC (.int 1))])]), .ev (evPrim pIdx [.rf 0, .ev (evC (.int 2))]), .ev (evPrim pIdx [.rf 0, .ev (evC (.int 3))]), .ev (evPrim pIdx [.rf 0, .ev (evC (.int 4))]), .ev (evPrim pIdx [.rf 0, .ev (evC (.int 5))])])) (evSkip))
    (evSq (evIf (tstB (evPrim pEq [.rf 1, .ev (evC (.str [112, 105, 99, 107]))])) (evRet (evPrim pAdd [.ev (evSeq (.lst true) [.ev (evC (.str [112, 105, 99, 107])), .ev (evPrim pIdx [.rf 0, .ev (evC (.int 1))])]), .ev (evPrim pList [.ev (evPrim pIdx [.rf 0, .ev (evC (.int 2))])])])) (evSkip))
    (evSq (evIf (tstB (evPrim pEq [.rf 1, .ev (evC (.str [99, 97, 108, 108]))])) (evRet (evPrim pAdd [.ev (evSeq (.lst true) [.ev (evC (.str [99, 97, 108, 108])), .ev (evPrim pIdx [.rf 0, .ev (evC (.int 1))])]), .ev (evPrim pList [.ev (evPrim pIdx [.rf 0, .ev (evC (.int 2))])])])) (evSkip))
    (evRet (evPrim pAdd [.ev (evSeq (.lst true) [.ev (evPrim pIdx [.rf 0, .ev (evC (.int 1))])]), .ev (evPrim pList [.ev (evPrim pIdx [.rf 0, .ev (evC (.int 2))])])])))))))
noncomputable def rSpread : Fn := fnRun 2 []
    (evSq (evAsg (evPrim pIdx [.rf 0, .ev (evC (.int 0))]) (tgN 1))
    (evSq (evIf (evOr (tstB (evPrim pEq [.rf 1, .ev (evC (.str [110, 97, 109, 101]))])) (tstB (evPrim pEq [.rf 1, .ev (evC (.str [102, 105, 120, 101, 100]))]))) (evRet (evSeq (.lst true) [.ev (evPrim pIdx [.rf 0, .ev (evC (.int 1))])])) (evSkip))
    (evSq (evIf (tstB (evPrim pEq [.rf 1, .ev (evC (.str [110, 117, 109]))])) (evRet (evSeq (.lst true) [.ev (evPrim pStrI [.ev (evPrim pIdx [.rf 0, .ev (evC (.int 1))])])])) (evSkip))
    (evSq (evIf (tstB (evPrim pEq [.rf 1, .ev (evC (.str [99, 111, 117, 110, 116]))])) (evRet (evSeq (.lst true) [.ev (evPrim pAdd [.ev (evC (.str [35])), .ev (evPrim pIdx [.rf 0, .ev (evC (.int 1))])])])) (evSkip))
    (evSq (evIf (tstB (evPrim pEq [.rf 1, .ev (evC (.str [111, 112]))])) (evRet (evCall rBracketed 3 [] [.ev (evC (.str [91])), .ev (evSeq (.lst true) [.ev (evPrim pIdx [.rf 0, .ev (evC (.int 2))]), .ev (evPrim pIdx [.rf 0, .ev (evC (.int 1))]), .ev (evPrim pIdx [.rf 0, .ev (evC (.int 3))])]), .ev (evC (.str [93]))])) (evSkip))
    (evRet (evCall rBracketed 3 [] [.ev (evC (.str [40])), .ev (evCall rWordsOf 1 [] [.ev (evVar 0)]), .ev (evC (.str [41]))])))))))
noncomputable def bTermText1 : Es :=
    evSq (evAsg (evMut 2 muPop []) (tgN 3))
    (evIf (evTru (.ev (evPrim pIsi [.rf 3, .ev (evC (.ty "str"))]))) (evDrop (evMut 1 muAppend [.ev (evVar 3)])) (evDrop (evMut 2 muExtend [.ev (evPrim pRev [.ev (evCall rSpread 1 [] [.ev (evVar 3)])])])))
noncomputable def rTermText : Fn := fnRun 4 []
    (evSq (evAsg (evSeq (.lst true) []) (tgN 1))
    (evSq (evAsg (evSeq (.lst true) [.ev (evVar 0)]) (tgN 2))
    (evSq (whl (evTru (.rf 2)) bTermText1 FUEL)
    (evRet (evMeth "str" pJoin (.ev (evC (.str []))) [.rf 1])))))
noncomputable def cLSaid1 (qLSaid : Fn) : Ev Dt :=
    evCall qLSaid 1 [] [.ev (evVar 3)]
noncomputable def cLSaid2 (qLSaid : Fn) : Ev Dt :=
    evCall qLSaid 1 [] [.ev (evVar 3)]
noncomputable def cLSaid3 (qLSaid : Fn) : Ev Dt :=
    evCall qLSaid 1 [] [.ev (evVar 3)]
noncomputable def rLSaid : Nat → Fn
  | 0 => fun _ _ => none
  | n + 1 => fnRun 4 []
    (evSq (evAsg (evPrim pIdx [.rf 0, .ev (evC (.int 0))]) (tgN 1))
    (evSq (evIf (evOr (tstB (evPrim pEq [.rf 1, .ev (evC (.str [110, 97, 109, 101]))])) (tstB (evPrim pEq [.rf 1, .ev (evC (.str [102, 105, 120, 101, 100]))]))) (evRet (evPrim pIdx [.rf 0, .ev (evC (.int 1))])) (evSkip))
    (evSq (evIf (tstB (evPrim pEq [.rf 1, .ev (evC (.str [110, 117, 109]))])) (evRet (evPrim pStrI [.ev (evPrim pIdx [.rf 0, .ev (evC (.int 1))])])) (evSkip))
    (evSq (evIf (tstB (evPrim pEq [.rf 1, .ev (evC (.str [99, 111, 117, 110, 116]))])) (evRet (evPrim pAdd [.ev (evC (.str [35])), .ev (evPrim pIdx [.rf 0, .ev (evC (.int 1))])])) (evSkip))
    (evSq (evIf (tstB (evPrim pEq [.rf 1, .ev (evC (.str [111, 112]))])) (evRet (evPrim pAdd [.ev (evPrim pAdd [.ev (evPrim pAdd [.ev (evPrim pAdd [.ev (evPrim pAdd [.ev (evPrim pAdd [.ev (evC (.str [91])), .ev (evCall (rLSaid n) 1 [] [.ev (evPrim pIdx [.rf 0, .ev (evC (.int 2))])])]), .ev (evC (.str [32]))]), .ev (evPrim pIdx [.rf 0, .ev (evC (.int 1))])]), .ev (evC (.str [32]))]), .ev (evCall (rLSaid n) 1 [] [.ev (evPrim pIdx [.rf 0, .ev (evC (.int 3))])])]), .ev (evC (.str [93]))])) (evSkip))
    (evSq (evIf (tstB (evPrim pEq [.rf 1, .ev (evC (.str [100, 111]))])) (evRet (evPrim pAdd [.ev (evPrim pAdd [.ev (evC (.str [40])), .ev (evMeth "str" pJoin (.ev (evC (.str [32]))) [.ev (evPrim pAdd [.ev (evSeq (.lst true) [.ev (evPrim pIdx [.rf 0, .ev (evC (.int 1))])]), .ev (evComp (evItems (evPrim pIdx [.rf 0, .ev (evC (.int 2))])) [3] (tgN 3) (cLSaid1 (rLSaid n)))])])]), .ev (evC (.str [41]))])) (evSkip))
    (evSq (evIf (tstB (evPrim pEq [.rf 1, .ev (evC (.str [108, 101, 116]))])) (evRet (evPrim pAdd [.ev (evPrim pAdd [.ev (evPrim pAdd [.ev (evPrim pAdd [.ev (evPrim pAdd [.ev (evPrim pAdd [.ev (evC (.str [40, 108, 101, 116, 32])), .ev (evPrim pIdx [.rf 0, .ev (evC (.int 1))])]), .ev (evC (.str [32]))]), .ev (evCall (rLSaid n) 1 [] [.ev (evPrim pIdx [.rf 0, .ev (evC (.int 2))])])]), .ev (evC (.str [32]))]), .ev (evCall (rLSaid n) 1 [] [.ev (evPrim pIdx [.rf 0, .ev (evC (.int 3))])])]), .ev (evC (.str [41]))])) (evSkip))
    (evSq (evIf (tstB (evPrim pEq [.rf 1, .ev (evC (.str [108, 111, 111, 112]))])) (evSq (evAsg (evPrim pAdd [.ev (evPrim pAdd [.ev (evPrim pAdd [.ev (evPrim pAdd [.ev (evPrim pAdd [.ev (evC (.str [40, 108, 111, 111, 112, 32, 35])), .ev (evPrim pIdx [.rf 0, .ev (evC (.int 1))])]), .ev (evC (.str [32]))]), .ev (evCall (rLSaid n) 1 [] [.ev (evPrim pIdx [.rf 0, .ev (evC (.int 2))])])]), .ev (evC (.str [32]))]), .ev (evPrim pIdx [.rf 0, .ev (evC (.int 3))])]) (tgN 2))
    (evRet (evPrim pAdd [.ev (evPrim pAdd [.ev (evPrim pAdd [.ev (evPrim pAdd [.ev (evPrim pAdd [.rf 2, .ev (evC (.str [32]))]), .ev (evCall (rLSaid n) 1 [] [.ev (evPrim pIdx [.rf 0, .ev (evC (.int 4))])])]), .ev (evC (.str [32]))]), .ev (evCall (rLSaid n) 1 [] [.ev (evPrim pIdx [.rf 0, .ev (evC (.int 5))])])]), .ev (evC (.str [41]))]))) (evSkip))
    (evSq (evIf (tstB (evPrim pEq [.rf 1, .ev (evC (.str [112, 105, 99, 107]))])) (evRet (evPrim pAdd [.ev (evPrim pAdd [.ev (evC (.str [40, 112, 105, 99, 107, 32])), .ev (evMeth "str" pJoin (.ev (evC (.str [32]))) [.ev (evPrim pAdd [.ev (evSeq (.lst true) [.ev (evCall (rLSaid n) 1 [] [.ev (evPrim pIdx [.rf 0, .ev (evC (.int 1))])])]), .ev (evComp (evItems (evPrim pIdx [.rf 0, .ev (evC (.int 2))])) [3] (tgN 3) (cLSaid2 (rLSaid n)))])])]), .ev (evC (.str [41]))])) (evSkip))
    (evRet (evPrim pAdd [.ev (evPrim pAdd [.ev (evC (.str [40, 99, 97, 108, 108, 32])), .ev (evMeth "str" pJoin (.ev (evC (.str [32]))) [.ev (evPrim pAdd [.ev (evSeq (.lst true) [.ev (evPrim pIdx [.rf 0, .ev (evC (.int 1))])]), .ev (evComp (evItems (evPrim pIdx [.rf 0, .ev (evC (.int 2))])) [3] (tgN 3) (cLSaid3 (rLSaid n)))])])]), .ev (evC (.str [41]))])))))))))))
noncomputable def cShapeText1 : Ev Dt :=
    evJ [evFmt (evVar 2), evC (.str [47]), evFmt (evVar 3)] []
noncomputable def rShapeText : Fn := fnRun 4 []
    (evSq (evAsg (evComp (evItems (evPrim pIdx [.rf 0, .ev (evC (.int 1))])) [2, 3] (tgT (tgsCons (tgN 2) (tgsCons (tgN 3) tgsNil))) cShapeText1) (tgN 1))
    (evRet (evMeth "str" pJoin (.ev (evC (.str [32]))) [.ev (evPrim pAdd [.ev (evPrim pAdd [.ev (evPrim pAdd [.ev (evSeq (.lst true) [.ev (evC (.str [115, 104, 97, 112, 101]))]), .ev (evPrim pList [.ev (evPrim pIdx [.rf 0, .ev (evC (.int 0))])])]), .ev (evSeq (.lst true) [.ev (evC (.str [124]))])]), .rf 1])])))
noncomputable def cLShapeSaid1 : Ev Dt :=
    evPrim pAdd [.ev (evPrim pAdd [.rf 2, .ev (evC (.str [47]))]), .ev (evPrim pStrI [.rf 3])]
noncomputable def rLShapeSaid : Fn := fnRun 4 []
    (evSq (evAsg (evPrim pAdd [.ev (evPrim pAdd [.ev (evSeq (.lst true) [.ev (evC (.str [115, 104, 97, 112, 101]))]), .ev (evPrim pList [.ev (evPrim pIdx [.rf 0, .ev (evC (.int 0))])])]), .ev (evSeq (.lst true) [.ev (evC (.str [124]))])]) (tgN 1))
    (evRet (evMeth "str" pJoin (.ev (evC (.str [32]))) [.ev (evPrim pAdd [.rf 1, .ev (evComp (evItems (evPrim pIdx [.rf 0, .ev (evC (.int 1))])) [2, 3] (tgT (tgsCons (tgN 2) (tgsCons (tgN 3) tgsNil))) cLShapeSaid1)])])))
noncomputable def bLaw1 : Es :=
    evSq (evAsg (evCall rTermText 1 [] [.ev (evVar 5)]) (tgN 7))
    (evSq (evIf (evOr (evNot (evTru (.ev (evPrim pIsi [.rf 7, .ev (evC (.ty "str"))])))) (tstB (evPrim pNe [.rf 7, .ev (evCall (rLSaid 100) 1 [] [.ev (evVar 5)])]))) (evRet (evC (.bl false))) (evSkip))
    (evSq (evAsg (evCall rShapeText 1 [] [.ev (evVar 3)]) (tgN 7))
    (evIf (evOr (evNot (evTru (.ev (evPrim pIsi [.rf 7, .ev (evC (.ty "str"))])))) (tstB (evPrim pNe [.rf 7, .ev (evCall rLShapeSaid 1 [] [.ev (evVar 3)])]))) (evRet (evC (.bl false))) (evSkip))))
noncomputable def bLaw2 : Es :=
    evSq (evAsg (evCall (rLTerm 30) 4 [0] [.rf 1, .ev (evVar 2), .ev (evPrim pAdd [.ev (evC (.int 1)), .ev (evCall rLTake 2 [0] [.rf 1, .ev (evC (.int 60))])]), .ev (evC (.int 9))]) (tgN 5))
    (evFor (evRng1 (.ev (evC (.int 2)))) (tgN 6) bLaw1)
noncomputable def rLaw : Fn := fnRun 8 []
    (evSq (evAsg (evCall rLFeed 2 [] [.ev (evVar 0), .ev (evC (.int 0))]) (tgN 1))
    (evSq (evAsg (evCall rLPool 1 [0] [.rf 1]) (tgN 2))
    (evSq (evAsg (evCall rLShape 1 [0] [.ev (evCall rLFeed 2 [] [.ev (evVar 0), .ev (evC (.int 1))])]) (tgN 3))
    (evSq (evFor (evRng1 (.ev (evC (.int 3)))) (tgN 4) bLaw2)
    (evRet (evAndV (evPrim pEq [.ev (evCall rShapeText 1 [] [.ev (evSeq .tup [.ev (evSeq .tup []), .ev (evSeq .tup [])])]), .ev (evC (.str [115, 104, 97, 112, 101, 32, 124]))]) (evPrim pEq [.ev (evCall rShapeText 1 [] [.ev (evSeq .tup [.ev (evSeq .tup [.ev (evC (.str [65]))]), .ev (evSeq .tup [])])]), .ev (evC (.str [115, 104, 97, 112, 101, 32, 65, 32, 124]))])))))))
end My
namespace My
open PySem L2 Q
def top (i : Nat) : Stmt := PySem.Challenge.pw_shapefree_k08_terms_and_shapes_written.main.body.getD i (.Pass ⟨0, 0, 0, 0⟩)
abbrev sLFeed : Stmt := top 7
theorem scLFeed : FnScope ["_law_script", "_law_k", "_law_cell", "_law_own"] ["_law_script", "_law_k"] (defScope sLFeed) := ⟨rfl, rfl, rfl, by decide +kernel, rfl, by decide +kernel, by decide +kernel⟩
section
variable {P : Program} {w : World} {K : PySem.W.Frag} {mg : Str → Option Value} {base : Heap} {f : Addr} {fd : FuncData}
theorem ok_LFeed (F : Fun K "_law_feed" "_law_feed" sLFeed f fd) (m_len : mg "len" = none) : FnOk P w K mg base CX0 1 f fd ["_law_script", "_law_k"] (spq K 2 [] rLFeed) :=
  fn_q F scLFeed (by decide) (by decide) ⟨_, fun cdv A outer s H E hr => (qss_cons (qs_set (i := 2) scLFeed.nd rfl (Or.inl rfl) (by decide) (q_op (op_addB K) pr_add (qo_ev (q_op op_mulQ pr_mul (qo_ev q_int) (qo_rf (pv 1)))) (qo_ev q_int)))
      (qss_cons (qs_if (qt_cmp op_lt pr_cmp2 (qo_rf (pv 1)) (qo_ev (q_callB (call_lenK K) pr_len rfl m_len PySem.boot_len (qa_cons (qo_rf (pv 0)) qa_nil))) (nomark _)) (qss_one (qs_set (i := 2) scLFeed.nd rfl (Or.inl rfl) (by decide) (q_ix (ix_K K) pr_idx (qo_rf (pv 0)) (qo_rf (pv 1)) (fun _ _ => rfl)))) (qss_one (qs_if (qt_cmp op_gt pr_cmp2 (qo_ev (q_callB (call_lenK K) pr_len rfl m_len PySem.boot_len (qa_cons (qo_rf (pv 0)) qa_nil))) (qo_ev q_int) (nomark _)) (qss_one (qs_set (i := 2) scLFeed.nd rfl (Or.inl rfl) (by decide) (q_op (op_addB K) pr_add (qo_ev (q_op op_mulQ pr_mul (qo_ev (q_op op_mod pr_mod (qo_ev (q_ix (ix_K K) pr_idx (qo_rf (pv 0)) (qo_ev (q_op op_mod pr_mod (qo_rf (pv 1)) (qo_ev (q_callB (call_lenK K) pr_len rfl m_len PySem.boot_len (qa_cons (qo_rf (pv 0)) qa_nil))))) (fun _ _ => rfl))) (qo_ev q_int))) (qo_ev q_int))) (qo_ev (q_op op_mulQ pr_mul (qo_ev q_int) (qo_rf (pv 1))))))) qss_nil)))
      (qss_cons (qs_set (i := 3) scLFeed.nd rfl (Or.inl rfl) (by decide) q_int)
      (qss_cons (qs_if (qt_cmp op_ge pr_cmp2 (qo_rf (pv 2)) (qo_ev (q_op op_pow pr_pow (qo_ev q_int) (qo_ev q_int))) (nomark _)) (qss_one (qs_set (i := 3) scLFeed.nd rfl (Or.inl rfl) (by decide) (q_var (pv 2)))) qss_nil)
      (qss_one (qs_ret (q_lst (qa_cons (qo_ev (q_var (pv 3))) (qa_cons (qo_ev (q_op (op_addB K) pr_add (qo_ev (q_op op_mod pr_mod (qo_ev (q_op (op_addB K) pr_add (qo_ev (q_op op_mulQ pr_mul (qo_ev (q_op op_mod pr_mod (qo_rf (pv 2)) (qo_ev q_int))) (qo_ev q_int))) (qo_ev (q_op op_mulQ pr_mul (qo_ev q_int) (qo_rf (pv 1)))))) (qo_ev q_int))) (qo_ev q_int))) qa_nil))))))))), fun _ _ _ _ h => h⟩
end
abbrev sLTake : Stmt := top 8
theorem scLTake : FnScope ["_law_feed_here", "_law_many", "_law_one", "_law_digit"] ["_law_feed_here", "_law_many"] (defScope sLTake) := ⟨rfl, rfl, rfl, by decide +kernel, rfl, by decide +kernel, by decide +kernel⟩
section
variable {P : Program} {w : World} {K : PySem.W.Frag} {mg : Str → Option Value} {base : Heap} {f : Addr} {fd : FuncData}
theorem ok_LTake (F : Fun K "_law_take" "_law_take" sLTake f fd)  : FnOk P w K mg base CX0 1 f fd ["_law_feed_here", "_law_many"] (spq K 2 [0] rLTake) :=
  fn_q F scLTake (by decide) (by decide) ⟨_, fun cdv A outer s H E hr => (qss_cons (qs_if (qt_cmp op_gt pr_cmp2 (qo_ev (q_ix (ix_K K) pr_idx (qo_rf (pv 0)) (qo_ev q_int) (fun _ _ => rfl))) (qo_ev q_int) (nomark _)) (qss_cons (qs_set (i := 3) scLTake.nd rfl (Or.inl rfl) (by decide) (q_op op_mod pr_mod (qo_ev (q_ix (ix_K K) pr_idx (qo_rf (pv 0)) (qo_ev q_int) (fun _ _ => rfl))) (qo_rf (pv 1))))
      (qss_cons (qs_setIx (q_op op_fdiv pr_div (qo_ev (q_ix (ix_K K) pr_idx (qo_rf (pv 0)) (qo_ev q_int) (fun _ _ => rfl))) (qo_rf (pv 1))) (pv 0) (qo_ev q_int))
      (qss_one (qs_ret (q_mov (pv 3)))))) qss_nil)
      (qss_cons (qs_set (i := 2) scLTake.nd rfl (Or.inl rfl) (by decide) (q_op op_mod pr_mod (qo_ev (q_op op_mulQ pr_mul (qo_ev (q_ix (ix_K K) pr_idx (qo_rf (pv 0)) (qo_ev q_int) (fun _ _ => rfl))) (qo_ev q_int))) (qo_ev q_int)))
      (qss_cons (qs_setIx (q_op (op_addB K) pr_add (qo_ev (q_op op_mod pr_mod (qo_ev (q_op (op_addB K) pr_add (qo_ev (q_op op_mulQ pr_mul (qo_rf (pv 2)) (qo_ev q_int))) (qo_ev q_int))) (qo_ev q_int))) (qo_ev q_int)) (pv 0) (qo_ev q_int))
      (qss_one (qs_ret (q_op op_mod pr_mod (qo_ev (q_op op_fdiv pr_div (qo_ev (q_op (op_addB K) pr_add (qo_ev (q_op op_mulQ pr_mul (qo_rf (pv 2)) (qo_ev q_int))) (qo_ev (q_ix (ix_K K) pr_idx (qo_rf (pv 0)) (qo_ev q_int) (fun _ _ => rfl))))) (qo_ev q_int))) (qo_rf (pv 1)))))))), fun _ _ _ _ h => h⟩
end
abbrev sLNames : Stmt := top 9
theorem scLNames : FnScope ["_law_feed_here", "_law_many", "_law_letters", "_law_stem", "_law_first", "_law_at", "_law_turn", "_law_names_here", "_law_k", "_law_sign", "_law_name"] ["_law_feed_here", "_law_many"] (defScope sLNames) := ⟨rfl, rfl, rfl, by decide +kernel, rfl, by decide +kernel, by decide +kernel⟩
section
variable {P : Program} {w : World} {K : PySem.W.Frag} {mg : Str → Option Value} {base : Heap} {f : Addr} {fd : FuncData}
theorem ok_LNames (F : Fun K "_law_names" "_law_names" sLNames f fd) (FLTake : Fx P w K mg base 1 "_law_take" ["_law_feed_here", "_law_many"] (spq K 2 [0] rLTake)) (m_range : mg "range" = none) (m_len : mg "len" = none) : FnOk P w K mg base CX0 2 f fd ["_law_feed_here", "_law_many"] (spq K 2 [0] rLNames) :=
  fn_q F scLNames (by decide) (by decide) ⟨_, fun cdv A outer s H E hr => (qss_cons (qs_set (i := 2) scLNames.nd rfl (Or.inr rfl) (by decide) (q_str (l := [97, 98, 99, 100, 101, 102, 103, 104, 105, 106, 107, 108, 109, 110, 111, 112, 113, 114, 115, 116, 117, 118, 119, 120, 121, 122])))
      (qss_cons (qs_set (i := 3) scLNames.nd rfl (Or.inl rfl) (by decide) (q_meth PySem.F.plainAttrs_str PySem.F.slot_str_join PySem.F.type_str_join (mt_joinK K) pr_join (qo_ev (q_str (l := []))) (qa_cons (qo_ev (q_comp (js := [8]) (by rfl) rfl (qi_rng1 rfl m_range (qo_ev (q_call FLTake hr (by first | decide | omega) rfl (qa_cons (qo_rf (pv 0)) (qa_cons (qo_ev q_int) qa_nil))))) (fun _ _ _ _ _ => (pg_name (i := 8) scLNames.nd rfl (Or.inl rfl) (.inr rfl))) (gok_name (by decide)) tg_name (fun _ _ _ _ _ => (q_ix (ix_K K) pr_idx (qo_rf (pv 2)) (qo_ev (q_call FLTake hr (by first | decide | omega) rfl (qa_cons (qo_rf (pv 0)) (qa_cons (qo_ev q_int) qa_nil)))) (fun _ _ => rfl))))) qa_nil)))
      (qss_cons (qs_par (i := 4) (j := 5) rfl scLNames.nd rfl rfl (by decide) rfl rfl (qa_cons (qo_ev (q_call FLTake hr (by first | decide | omega) rfl (qa_cons (qo_rf (pv 0)) (qa_cons (qo_ev q_int) qa_nil)))) (qa_cons (qo_ev (q_call FLTake hr (by first | decide | omega) rfl (qa_cons (qo_rf (pv 0)) (qa_cons (qo_ev (q_op (op_addB K) pr_add (qo_ev (q_callB (call_lenK K) pr_len rfl m_len PySem.boot_len (qa_cons (qo_rf (pv 3)) qa_nil))) (qo_ev q_int))) qa_nil)))) qa_nil)) (by rfl) (by decide) (by decide))
      (qss_cons (qs_set (i := 6) scLNames.nd rfl (Or.inl rfl) (by decide) (q_call FLTake hr (by first | decide | omega) rfl (qa_cons (qo_rf (pv 0)) (qa_cons (qo_ev q_int) qa_nil))))
      (qss_cons (qs_set (i := 7) scLNames.nd rfl (Or.inl rfl) (by decide) (q_lst qa_nil))
      (qss_cons (qs_for PassesOwn.never rfl (qi_rng1 rfl m_range (qo_rf (pv 1))) (pg_name (i := 8) scLNames.nd rfl (Or.inl rfl)) tg_name (by decide) (qss_cons (qs_set (i := 9) scLNames.nd rfl (Or.inl rfl) (by decide) (q_ix (ix_K K) pr_idx (qo_rf (pv 2)) (qo_ev (q_op op_mod pr_mod (qo_ev (q_op (op_addB K) pr_add (qo_rf (pv 4)) (qo_ev (q_op op_mulQ pr_mul (qo_ev q_int) (qo_rf (pv 8)))))) (qo_ev q_int))) (fun _ _ => rfl)))
      (qss_cons (qs_set (i := 10) scLNames.nd rfl (Or.inl rfl) (by decide) (q_op (op_addB K) pr_add (qo_ev (q_op (op_addB K) pr_add (qo_ev (q_slH (qo_rf (pv 3)) (qo_ev (q_var (pv 5))))) (qo_rf (pv 9)))) (qo_ev (q_slB (qo_rf (pv 3)) (qo_ev (q_var (pv 5))) (qo_ev (q_op op_mod pr_mod (qo_ev (q_op (op_addB K) pr_add (qo_rf (pv 6)) (qo_rf (pv 8)))) (qo_ev q_int)))))))
      (qss_cons (qs_if (qt_cmp (op_inQ hr) pr_inN (qo_rf (pv 10)) (qo_ev (q_tup (qa_cons (qo_ev (q_str (l := [100, 101, 102]))) (qa_cons (qo_ev (q_str (l := [108, 101, 116]))) (qa_cons (qo_ev (q_str (l := [116, 101, 108, 108]))) (qa_cons (qo_ev (q_str (l := [108, 111, 111, 112]))) (qa_cons (qo_ev (q_str (l := [112, 105, 99, 107]))) (qa_cons (qo_ev (q_str (l := [99, 97, 108, 108]))) qa_nil)))))))) (by with_unfolding_all rfl)) (qss_one (qs_set (i := 10) scLNames.nd rfl (Or.inl rfl) (by decide) (q_op (op_addB K) pr_add (qo_rf (pv 10)) (qo_ev (q_str (l := [113])))))) qss_nil)
      (qss_one (qs_expr (q_mut PySem.F.slot_list_append PySem.F.type_list_append mt_append mu_append (pv 7) (qa_cons (qo_ev (q_var (pv 10))) qa_nil))))))))
      (qss_cons (qs_if (qt_w (qw_and (qt_cmp op_gt pr_cmp2 (qo_rf (pv 1)) (qo_ev q_int) (nomark _)) (qw_and (qt_cmp op_lt pr_cmp2 (qo_ev (q_callB (call_lenK K) pr_len rfl m_len PySem.boot_len (qa_cons (qo_ev (q_ix (ix_K K) pr_idx (qo_rf (pv 7)) (qo_ev (q_un un_neg pr_neg (qo_ev q_int))) (fun _ _ => rfl))) qa_nil))) (qo_ev q_int) (nomark _)) (qw_and1 (qt_cmp (L3.op_eqA hr) pr_eqN (qo_ev (q_call FLTake hr (by first | decide | omega) rfl (qa_cons (qo_rf (pv 0)) (qa_cons (qo_ev q_int) qa_nil)))) (qo_ev q_int) (nomark _)))))) (qss_one (qs_setIx (q_op (op_addB K) pr_add (qo_ev (q_ix (ix_K K) pr_idx (qo_rf (pv 7)) (qo_ev (q_un un_neg pr_neg (qo_ev q_int))) (fun _ _ => rfl))) (qo_ev (q_str (l := [113])))) (pv 7) (qo_ev (q_un un_neg pr_neg (qo_ev q_int))))) qss_nil)
      (qss_one (qs_ret (q_mov (pv 7))))))))))), fun _ _ _ _ h => h⟩
end
abbrev sLPool : Stmt := top 10
theorem scLPool : FnScope ["_law_feed_here", "_law_names_here", "_law_near", "_law_k", "_law_fixed", "_law_name"] ["_law_feed_here"] (defScope sLPool) := ⟨rfl, rfl, rfl, by decide +kernel, rfl, by decide +kernel, by decide +kernel⟩
section
variable {P : Program} {w : World} {K : PySem.W.Frag} {mg : Str → Option Value} {base : Heap} {f : Addr} {fd : FuncData}
theorem ok_LPool (F : Fun K "_law_pool" "_law_pool" sLPool f fd) (FLNames : Fx P w K mg base 2 "_law_names" ["_law_feed_here", "_law_many"] (spq K 2 [0] rLNames)) (FLTake : Fx P w K mg base 1 "_law_take" ["_law_feed_here", "_law_many"] (spq K 2 [0] rLTake)) (m_range : mg "range" = none) : FnOk P w K mg base CX0 3 f fd ["_law_feed_here"] (spq K 1 [0] rLPool) :=
  fn_q F scLPool (by decide) (by decide) ⟨_, fun cdv A outer s H E hr => (qss_cons (qs_set (i := 1) scLPool.nd rfl (Or.inl rfl) (by decide) (q_call FLNames hr (by first | decide | omega) rfl (qa_cons (qo_rf (pv 0)) (qa_cons (qo_ev q_int) qa_nil))))
      (qss_cons (qs_set (i := 2) scLPool.nd rfl (Or.inl rfl) (by decide) (q_lst (qa_cons (qo_ev (q_str (l := [108, 101, 116, 115]))) (qa_cons (qo_ev (q_str (l := [108, 101, 116, 108, 101, 116]))) (qa_cons (qo_ev (q_str (l := [100, 101, 102, 115]))) (qa_cons (qo_ev (q_str (l := [116, 101, 108, 108, 115]))) (qa_cons (qo_ev (q_str (l := [116, 101, 108, 108, 109, 101]))) (qa_cons (qo_ev (q_str (l := [108, 111, 111, 112, 115]))) (qa_cons (qo_ev (q_str (l := [108, 111, 111, 112, 101, 100]))) (qa_cons (qo_ev (q_str (l := [112, 105, 99, 107, 115]))) (qa_cons (qo_ev (q_str (l := [112, 105, 99, 107, 101, 114]))) (qa_cons (qo_ev (q_str (l := [99, 97, 108, 108, 115]))) (qa_cons (qo_ev (q_str (l := [99, 97, 108, 108, 101, 100]))) qa_nil)))))))))))))
      (qss_cons (qs_set (i := 2) scLPool.nd rfl (Or.inl rfl) (by decide) (q_op (op_addB K) pr_add (qo_rf (pv 2)) (qo_ev (q_lst (qa_cons (qo_ev (q_str (l := [119, 111, 114, 108, 100, 115]))) (qa_cons (qo_ev (q_str (l := [115, 104, 97, 112, 101, 115]))) (qa_cons (qo_ev (q_str (l := [105, 110, 112, 117, 116]))) (qa_cons (qo_ev (q_str (l := [105, 110, 112, 117, 116, 120]))) (qa_cons (qo_ev (q_str (l := [97, 98, 99, 100, 101, 102]))) (qa_cons (qo_ev (q_str (l := [118, 119, 120, 121, 122]))) (qa_cons (qo_ev (q_str (l := [105, 110, 108, 101, 116]))) (qa_cons (qo_ev (q_str (l := [114, 101, 100, 101, 102]))) qa_nil))))))))))))
      (qss_cons (qs_for PassesOwn.never rfl (qi_rng1 rfl m_range (qo_ev (q_call FLTake hr (by first | decide | omega) rfl (qa_cons (qo_rf (pv 0)) (qa_cons (qo_ev q_int) qa_nil))))) (pg_name (i := 3) scLPool.nd rfl (Or.inl rfl)) tg_name (by decide) (qss_one (qs_setIx (q_ix (ix_K K) pr_idx (qo_rf (pv 2)) (qo_ev (q_call FLTake hr (by first | decide | omega) rfl (qa_cons (qo_rf (pv 0)) (qa_cons (qo_ev q_int) qa_nil)))) (fun _ _ => rfl)) (pv 1) (qo_ev (q_call FLTake hr (by first | decide | omega) rfl (qa_cons (qo_rf (pv 0)) (qa_cons (qo_ev q_int) qa_nil)))))))
      (qss_cons (qs_setC (i := 4) scLPool.nd rfl (Or.inl rfl) (by decide) (js := [5]) (by rfl) rfl (qi_seq (q_call FLNames hr (by first | decide | omega) rfl (qa_cons (qo_rf (pv 0)) (qa_cons (qo_ev q_int) qa_nil)))) (fun _ _ _ _ _ => (pg_name (i := 5) scLPool.nd rfl (Or.inl rfl) (.inr rfl))) (gok_name (by decide)) tg_name (fun _ _ _ _ _ => (q_op (op_addB K) pr_add (qo_ev (q_meth0 PySem.F.plainAttrs_str PySem.F.slot_str_upper PySem.F.type_str_upper mt_upper pr_upper (qo_ev (q_slH (qo_rf (pv 5)) (qo_ev q_int))))) (qo_ev (q_slL (qo_rf (pv 5)) (qo_ev q_int))))))
      (qss_cons (qs_setIx (q_ix (ix_K K) pr_idx (qo_ev (q_lst (qa_cons (qo_ev (q_fz (q_str (l := [76, 101, 116])))) (qa_cons (qo_ev (q_fz (q_str (l := [73, 110, 112, 117, 116, 115])))) (qa_cons (qo_ev (q_fz (q_str (l := [65, 98, 99, 100, 101, 102])))) (qa_cons (qo_ev (q_fz (q_str (l := [87, 111, 114, 108, 100])))) (qa_cons (qo_ev (q_fz (q_str (l := [90])))) qa_nil))))))) (qo_ev (q_call FLTake hr (by first | decide | omega) rfl (qa_cons (qo_rf (pv 0)) (qa_cons (qo_ev q_int) qa_nil)))) (fun _ _ => rfl)) (pv 4) (qo_ev (q_call FLTake hr (by first | decide | omega) rfl (qa_cons (qo_rf (pv 0)) (qa_cons (qo_ev q_int) qa_nil)))))
      (qss_one (qs_ret (q_tup (qa_cons (qo_ev (q_var (pv 1))) (qa_cons (qo_ev (q_var (pv 4))) qa_nil))))))))))), fun _ _ _ _ h => h⟩
end
abbrev sLShape : Stmt := top 17
theorem scLShape : FnScope ["_law_feed_here", "_law_stem", "_law_fixed", "_law_names_here", "_law_acts", "_law_name", "_law_k"] ["_law_feed_here"] (defScope sLShape) := ⟨rfl, rfl, rfl, by decide +kernel, rfl, by decide +kernel, by decide +kernel⟩
section
variable {P : Program} {w : World} {K : PySem.W.Frag} {mg : Str → Option Value} {base : Heap} {f : Addr} {fd : FuncData}
theorem ok_LShape (F : Fun K "_law_shape" "_law_shape" sLShape f fd) (FLNames : Fx P w K mg base 2 "_law_names" ["_law_feed_here", "_law_many"] (spq K 2 [0] rLNames)) (FLTake : Fx P w K mg base 1 "_law_take" ["_law_feed_here", "_law_many"] (spq K 2 [0] rLTake)) (m_range : mg "range" = none) (m_tuple : mg "tuple" = none) : FnOk P w K mg base CX0 3 f fd ["_law_feed_here"] (spq K 1 [0] rLShape) :=
  fn_q F scLShape (by decide) (by decide) ⟨_, fun cdv A outer s H E hr => (qss_cons (qs_set (i := 1) scLShape.nd rfl (Or.inl rfl) (by decide) (q_call FLNames hr (by first | decide | omega) rfl (qa_cons (qo_rf (pv 0)) (qa_cons (qo_ev q_int) qa_nil))))
      (qss_cons (qs_setC (i := 2) scLShape.nd rfl (Or.inl rfl) (by decide) (js := [5]) (by rfl) rfl (qi_seq (q_slH (qo_rf (pv 1)) (qo_ev (q_call FLTake hr (by first | decide | omega) rfl (qa_cons (qo_rf (pv 0)) (qa_cons (qo_ev q_int) qa_nil)))))) (fun _ _ _ _ _ => (pg_name (i := 5) scLShape.nd rfl (Or.inl rfl) (.inr rfl))) (gok_name (by decide)) tg_name (fun _ _ _ _ _ => (q_op (op_addB K) pr_add (qo_ev (q_meth0 PySem.F.plainAttrs_str PySem.F.slot_str_upper PySem.F.type_str_upper mt_upper pr_upper (qo_ev (q_slH (qo_rf (pv 5)) (qo_ev q_int))))) (qo_ev (q_slL (qo_rf (pv 5)) (qo_ev q_int))))))
      (qss_cons (qs_set (i := 3) scLShape.nd rfl (Or.inr rfl) (by decide) (q_call FLNames hr (by first | decide | omega) rfl (qa_cons (qo_rf (pv 0)) (qa_cons (qo_ev q_int) qa_nil))))
      (qss_cons (qs_setC (i := 4) scLShape.nd rfl (Or.inl rfl) (by decide) (js := [6]) (by rfl) rfl (qi_rng1 rfl m_range (qo_ev (q_ix (ix_K K) pr_idx (qo_ev (q_lst (qa_cons (qo_ev (q_fz q_int)) (qa_cons (qo_ev (q_fz q_int)) (qa_cons (qo_ev (q_fz q_int)) (qa_cons (qo_ev (q_fz q_int)) (qa_cons (qo_ev (q_fz q_int)) (qa_cons (qo_ev (q_fz q_int)) (qa_cons (qo_ev (q_fz q_int)) (qa_cons (qo_ev (q_fz q_int)) qa_nil)))))))))) (qo_ev (q_call FLTake hr (by first | decide | omega) rfl (qa_cons (qo_rf (pv 0)) (qa_cons (qo_ev q_int) qa_nil)))) (fun _ _ => rfl)))) (fun _ _ _ _ _ => (pg_name (i := 6) scLShape.nd rfl (Or.inl rfl) (.inr rfl))) (gok_name (by decide)) tg_name (fun _ _ _ _ _ => (q_tup (qa_cons (qo_ev (q_ix (ix_K K) pr_idx (qo_rf (pv 3)) (qo_rf (pv 6)) (fun _ _ => rfl))) (qa_cons (qo_ev (q_op (op_addB K) pr_add (qo_ev q_int) (qo_ev (q_call FLTake hr (by first | decide | omega) rfl (qa_cons (qo_rf (pv 0)) (qa_cons (qo_ev q_int) qa_nil)))))) qa_nil)))))
      (qss_one (qs_ret (q_tup (qa_cons (qo_ev (q_callTy (call_tupleK K) pr_tuple rfl m_tuple PyProof.Rows.Boot.«tuple» (qa_cons (qo_rf (pv 2)) qa_nil))) (qa_cons (qo_ev (q_callTy (call_tupleK K) pr_tuple rfl m_tuple PyProof.Rows.Boot.«tuple» (qa_cons (qo_rf (pv 4)) qa_nil))) qa_nil))))))))), fun _ _ _ _ h => h⟩
end
abbrev sLNumber : Stmt := top 11
theorem scLNumber : FnScope ["_law_feed_here", "_law_pool_here", "_law_room", "_law_form", "_law_one"] ["_law_feed_here", "_law_pool_here", "_law_room"] (defScope sLNumber) := ⟨rfl, rfl, rfl, by decide +kernel, rfl, by decide +kernel, by decide +kernel⟩
section
variable {P : Program} {w : World} {K : PySem.W.Frag} {mg : Str → Option Value} {base : Heap} {f : Addr} {fd : FuncData}
theorem ok_LNumber (F : Fun K "_law_number" "_law_number" sLNumber f fd) (mf : mg "_law_number" = some (.ref f)) (bf : Binds K fd ["_law_feed_here", "_law_pool_here", "_law_room"] []) (FLTake : Fx P w K mg base 1 "_law_take" ["_law_feed_here", "_law_many"] (spq K 2 [0] rLTake)) : ∀ n, FnOk P w K mg base CX0 (n + 2) f fd ["_law_feed_here", "_law_pool_here", "_law_room"] (spq K 3 [0] (rLNumber n))
  | 0 => ⟨fun vs H Q E h => (by obtain ⟨_, _, _, _, _, _, _, _, _, _, _, _, _, h, _⟩ := h; cases h), fun A outer s H args us vs Q E hr e0 hb r h => (by obtain ⟨_, _, _, _, _, _, _, _, _, _, _, _, _, h, _⟩ := h; cases h)⟩
  | n + 1 => by
    have FLNumber : Fx P w K mg base (n + 2) "_law_number" ["_law_feed_here", "_law_pool_here", "_law_room"] (spq K 3 [0] (rLNumber n)) := ⟨f, _, ok_LNumber F mf bf FLTake n, mf, F.kp, bf⟩
    exact fn_q F scLNumber (by decide) (by decide) ⟨_, fun cdv A outer s H E hr => (qss_cons (qs_set (i := 3) scLNumber.nd rfl (Or.inl rfl) (by decide) (q_call FLTake hr (by first | decide | omega) rfl (qa_cons (qo_rf (pv 0)) (qa_cons (qo_ev q_int) qa_nil))))
      (qss_cons (qs_if (qt_w (qw_and (qt_cmp op_gt pr_cmp2 (qo_rf (pv 3)) (qo_ev q_int) (nomark _)) (qw_and1 (qt_cmp op_gt pr_cmp2 (qo_rf (pv 2)) (qo_ev q_int) (nomark _))))) (qss_cons (qs_set (i := 4) scLNumber.nd rfl (Or.inl rfl) (by decide) (q_call FLNumber hr (by first | decide | omega) rfl (qa_cons (qo_rf (pv 0)) (qa_cons (qo_ev (q_var (pv 1))) (qa_cons (qo_ev (q_op op_fdiv pr_div (qo_ev (q_op op_sub pr_sub (qo_rf (pv 2)) (qo_ev q_int))) (qo_ev q_int))) qa_nil)))))
      (qss_one (qs_ret (q_tup (qa_cons (qo_ev (q_str (l := [111, 112]))) (qa_cons (qo_ev (q_ix (ix_K K) pr_idx (qo_ev (q_str (l := [43, 42, 58, 60]))) (qo_ev (q_call FLTake hr (by first | decide | omega) rfl (qa_cons (qo_rf (pv 0)) (qa_cons (qo_ev q_int) qa_nil)))) (fun _ _ => rfl))) (qa_cons (qo_ev (q_var (pv 4))) (qa_cons (qo_ev (q_call FLNumber hr (by first | decide | omega) rfl (qa_cons (qo_rf (pv 0)) (qa_cons (qo_ev (q_var (pv 1))) (qa_cons (qo_ev (q_op op_fdiv pr_div (qo_ev (q_op op_sub pr_sub (qo_rf (pv 2)) (qo_ev q_int))) (qo_ev q_int))) qa_nil))))) qa_nil)))))))) qss_nil)
      (qss_cons (qs_if (qt_cmp (L3.op_eqA hr) pr_eqN (qo_rf (pv 3)) (qo_ev q_int) (nomark _)) (qss_one (qs_ret (q_tup (qa_cons (qo_ev (q_str (l := [99, 111, 117, 110, 116]))) (qa_cons (qo_ev (q_ix (ix_K K) pr_idx (qo_ev (q_ix (ix_K K) pr_idx (qo_rf (pv 1)) (qo_ev q_int) (fun _ _ => rfl))) (qo_ev (q_call FLTake hr (by first | decide | omega) rfl (qa_cons (qo_rf (pv 0)) (qa_cons (qo_ev q_int) qa_nil)))) (fun _ _ => rfl))) qa_nil))))) qss_nil)
      (qss_one (qs_ret (q_tup (qa_cons (qo_ev (q_str (l := [110, 117, 109]))) (qa_cons (qo_ev (q_ix (ix_K K) pr_idx (qo_ev (q_lst (qa_cons (qo_ev (q_fz (q_call FLTake hr (by first | decide | omega) rfl (qa_cons (qo_rf (pv 0)) (qa_cons (qo_ev q_int) qa_nil))))) (qa_cons (qo_ev (q_fz (q_call FLTake hr (by first | decide | omega) rfl (qa_cons (qo_rf (pv 0)) (qa_cons (qo_ev q_int) qa_nil))))) (qa_cons (qo_ev (q_fz q_int)) qa_nil))))) (qo_ev (q_call FLTake hr (by first | decide | omega) rfl (qa_cons (qo_rf (pv 0)) (qa_cons (qo_ev q_int) qa_nil)))) (fun _ _ => rfl))) qa_nil)))))))), fun _ _ _ _ h => h⟩
end
abbrev sLLeaf : Stmt := top 12
theorem scLLeaf : FnScope ["_law_feed_here", "_law_pool_here"] ["_law_feed_here", "_law_pool_here"] (defScope sLLeaf) := ⟨rfl, rfl, rfl, by decide +kernel, rfl, by decide +kernel, by decide +kernel⟩
section
variable {P : Program} {w : World} {K : PySem.W.Frag} {mg : Str → Option Value} {base : Heap} {f : Addr} {fd : FuncData}
theorem ok_LLeaf (F : Fun K "_law_leaf" "_law_leaf" sLLeaf f fd) (FLTake : Fx P w K mg base 1 "_law_take" ["_law_feed_here", "_law_many"] (spq K 2 [0] rLTake)) : FnOk P w K mg base CX0 2 f fd ["_law_feed_here", "_law_pool_here"] (spq K 2 [0] rLLeaf) :=
  fn_q F scLLeaf (by decide) (by decide) ⟨_, fun cdv A outer s H E hr => (qss_cons (qs_if (qt_cmp (L3.op_eqA hr) pr_eqN (qo_ev (q_call FLTake hr (by first | decide | omega) rfl (qa_cons (qo_rf (pv 0)) (qa_cons (qo_ev q_int) qa_nil)))) (qo_ev q_int) (nomark _)) (qss_one (qs_ret (q_tup (qa_cons (qo_ev (q_str (l := [102, 105, 120, 101, 100]))) (qa_cons (qo_ev (q_ix (ix_K K) pr_idx (qo_ev (q_ix (ix_K K) pr_idx (qo_rf (pv 1)) (qo_ev q_int) (fun _ _ => rfl))) (qo_ev (q_call FLTake hr (by first | decide | omega) rfl (qa_cons (qo_rf (pv 0)) (qa_cons (qo_ev q_int) qa_nil)))) (fun _ _ => rfl))) qa_nil))))) qss_nil)
      (qss_one (qs_ret (q_tup (qa_cons (qo_ev (q_str (l := [110, 97, 109, 101]))) (qa_cons (qo_ev (q_ix (ix_K K) pr_idx (qo_ev (q_ix (ix_K K) pr_idx (qo_rf (pv 1)) (qo_ev q_int) (fun _ _ => rfl))) (qo_ev (q_call FLTake hr (by first | decide | omega) rfl (qa_cons (qo_rf (pv 0)) (qa_cons (qo_ev q_int) qa_nil)))) (fun _ _ => rfl))) qa_nil)))))), fun _ _ _ _ h => h⟩
end
abbrev sLRow : Stmt := top 13
theorem scLRow : FnScope ["_law_feed_here", "_law_pool_here", "_law_room", "_law_down", "_law_many", "_law_k"] ["_law_feed_here", "_law_pool_here", "_law_room", "_law_down", "_law_many"] (defScope sLRow) := ⟨rfl, rfl, rfl, by decide +kernel, rfl, by decide +kernel, by decide +kernel⟩
abbrev sLArgs : Stmt := top 14
theorem scLArgs : FnScope ["_law_feed_here", "_law_pool_here", "_law_room", "_law_down", "_law_many", "_law_args_here", "_law_k"] ["_law_feed_here", "_law_pool_here", "_law_room", "_law_down"] (defScope sLArgs) := ⟨rfl, rfl, rfl, by decide +kernel, rfl, by decide +kernel, by decide +kernel⟩
abbrev sLTerm : Stmt := top 15
theorem scLTerm : FnScope ["_law_feed_here", "_law_pool_here", "_law_room", "_law_down", "_law_form", "_law_two", "_law_number_here"] ["_law_feed_here", "_law_pool_here", "_law_room", "_law_down"] (defScope sLTerm) := ⟨rfl, rfl, rfl, by decide +kernel, rfl, by decide +kernel, by decide +kernel⟩
section
variable {P : Program} {w : World} {K : PySem.W.Frag} {mg : Str → Option Value} {base : Heap}
theorem ok_LRowLArgsLTerm {fLRow : Addr} {dfLRow : FuncData} (F_LRow : Fun K "_law_row" "_law_row" sLRow fLRow dfLRow) (mf_LRow : mg "_law_row" = some (.ref fLRow)) (bf_LRow : Binds K dfLRow ["_law_feed_here", "_law_pool_here", "_law_room", "_law_down", "_law_many"] []) {fLArgs : Addr} {dfLArgs : FuncData} (F_LArgs : Fun K "_law_args" "_law_args" sLArgs fLArgs dfLArgs) (mf_LArgs : mg "_law_args" = some (.ref fLArgs)) (bf_LArgs : Binds K dfLArgs ["_law_feed_here", "_law_pool_here", "_law_room", "_law_down"] []) {fLTerm : Addr} {dfLTerm : FuncData} (F_LTerm : Fun K "_law_term" "_law_term" sLTerm fLTerm dfLTerm) (mf_LTerm : mg "_law_term" = some (.ref fLTerm)) (bf_LTerm : Binds K dfLTerm ["_law_feed_here", "_law_pool_here", "_law_room", "_law_down"] []) (FLTake : Fx P w K mg base 1 "_law_take" ["_law_feed_here", "_law_many"] (spq K 2 [0] rLTake)) (FLNumber : Fx P w K mg base 72 "_law_number" ["_law_feed_here", "_law_pool_here", "_law_room"] (spq K 3 [0] (rLNumber 70))) (FLLeaf : Fx P w K mg base 2 "_law_leaf" ["_law_feed_here", "_law_pool_here"] (spq K 2 [0] rLLeaf)) (m_range : mg "range" = none) (m_max : mg "max" = none) (m_tuple : mg "tuple" = none) (m_min : mg "min" = none) : ∀ n, FnOk P w K mg base CX0 (n + 73) fLRow dfLRow ["_law_feed_here", "_law_pool_here", "_law_room", "_law_down", "_law_many"] (spq K 5 [0] (rLRow n)) ∧ FnOk P w K mg base CX0 (n + 73) fLArgs dfLArgs ["_law_feed_here", "_law_pool_here", "_law_room", "_law_down"] (spq K 4 [0] (rLArgs n)) ∧ FnOk P w K mg base CX0 (n + 73) fLTerm dfLTerm ["_law_feed_here", "_law_pool_here", "_law_room", "_law_down"] (spq K 4 [0] (rLTerm n))
  | 0 => ⟨⟨fun vs H Q E h => (by obtain ⟨_, _, _, _, _, _, _, _, _, _, _, _, _, h, _⟩ := h; cases h), fun A outer s H args us vs Q E hr e0 hb r h => (by obtain ⟨_, _, _, _, _, _, _, _, _, _, _, _, _, h, _⟩ := h; cases h)⟩, ⟨fun vs H Q E h => (by obtain ⟨_, _, _, _, _, _, _, _, _, _, _, _, _, h, _⟩ := h; cases h), fun A outer s H args us vs Q E hr e0 hb r h => (by obtain ⟨_, _, _, _, _, _, _, _, _, _, _, _, _, h, _⟩ := h; cases h)⟩, ⟨fun vs H Q E h => (by obtain ⟨_, _, _, _, _, _, _, _, _, _, _, _, _, h, _⟩ := h; cases h), fun A outer s H args us vs Q E hr e0 hb r h => (by obtain ⟨_, _, _, _, _, _, _, _, _, _, _, _, _, h, _⟩ := h; cases h)⟩⟩
  | n + 1 => by
    obtain ⟨oLRow, oLArgs, oLTerm⟩ := ok_LRowLArgsLTerm F_LRow mf_LRow bf_LRow F_LArgs mf_LArgs bf_LArgs F_LTerm mf_LTerm bf_LTerm FLTake FLNumber FLLeaf m_range m_max m_tuple m_min n
    have FLRow : Fx P w K mg base (n + 73) "_law_row" ["_law_feed_here", "_law_pool_here", "_law_room", "_law_down", "_law_many"] (spq K 5 [0] (rLRow n)) := ⟨fLRow, _, oLRow, mf_LRow, F_LRow.kp, bf_LRow⟩
    have FLArgs : Fx P w K mg base (n + 73) "_law_args" ["_law_feed_here", "_law_pool_here", "_law_room", "_law_down"] (spq K 4 [0] (rLArgs n)) := ⟨fLArgs, _, oLArgs, mf_LArgs, F_LArgs.kp, bf_LArgs⟩
    have FLTerm : Fx P w K mg base (n + 73) "_law_term" ["_law_feed_here", "_law_pool_here", "_law_room", "_law_down"] (spq K 4 [0] (rLTerm n)) := ⟨fLTerm, _, oLTerm, mf_LTerm, F_LTerm.kp, bf_LTerm⟩
    exact ⟨fn_q F_LRow scLRow (by decide) (by decide) ⟨_, fun cdv A outer s H E hr => (qss_one (qs_ret (q_callTy (call_tupleK K) pr_tuple rfl m_tuple PyProof.Rows.Boot.«tuple» (qa_cons (qo_ev (q_comp (js := [5]) (by rfl) rfl (qi_rng1 rfl m_range (qo_rf (pv 4))) (fun _ _ _ _ _ => (pg_name (i := 5) scLRow.nd rfl (Or.inl rfl) (.inr rfl))) (gok_name (by decide)) tg_name (fun _ _ _ _ _ => (q_call FLTerm hr (by first | decide | omega) rfl (qa_cons (qo_rf (pv 0)) (qa_cons (qo_ev (q_var (pv 1))) (qa_cons (qo_ev (q_op op_fdiv pr_div (qo_rf (pv 2)) (qo_ev (q_callB (call_max2 rfl) pr_max2 rfl m_max PyProof.Rows.Boot.«max» (qa_cons (qo_rf (pv 4)) (qa_cons (qo_ev q_int) qa_nil)))))) (qa_cons (qo_ev (q_op op_sub pr_sub (qo_rf (pv 3)) (qo_ev q_int))) qa_nil)))))))) qa_nil)))), fun _ _ _ _ h => h⟩,
      fn_q F_LArgs scLArgs (by decide) (by decide) ⟨_, fun cdv A outer s H E hr => (qss_cons (qs_set (i := 4) scLArgs.nd rfl (Or.inl rfl) (by decide) (q_callB (call_min2 rfl) pr_min2 rfl m_min PyProof.Rows.Boot.«min» (qa_cons (qo_ev (q_call FLTake hr (by first | decide | omega) rfl (qa_cons (qo_rf (pv 0)) (qa_cons (qo_ev q_int) qa_nil)))) (qa_cons (qo_rf (pv 2)) qa_nil))))
      (qss_cons (qs_set (i := 5) scLArgs.nd rfl (Or.inl rfl) (by decide) (q_lst qa_nil))
      (qss_cons (qs_for PassesOwn.never rfl (qi_rng1 rfl m_range (qo_rf (pv 4))) (pg_name (i := 6) scLArgs.nd rfl (Or.inl rfl)) tg_name (by decide) (qss_one (qs_if (qt_cmp (L3.op_eqA hr) pr_eqN (qo_ev (q_call FLTake hr (by first | decide | omega) rfl (qa_cons (qo_rf (pv 0)) (qa_cons (qo_ev q_int) qa_nil)))) (qo_ev q_int) (nomark _)) (qss_one (qs_expr (q_mut PySem.F.slot_list_append PySem.F.type_list_append mt_append mu_append (pv 5) (qa_cons (qo_ev (q_call FLNumber hr (by first | decide | omega) rfl (qa_cons (qo_rf (pv 0)) (qa_cons (qo_ev (q_var (pv 1))) (qa_cons (qo_ev (q_callB (call_min2 rfl) pr_min2 rfl m_min PyProof.Rows.Boot.«min» (qa_cons (qo_ev q_int) (qa_cons (qo_ev (q_op op_fdiv pr_div (qo_rf (pv 2)) (qo_rf (pv 4)))) qa_nil)))) qa_nil))))) qa_nil)))) (qss_one (qs_expr (q_mut PySem.F.slot_list_append PySem.F.type_list_append mt_append mu_append (pv 5) (qa_cons (qo_ev (q_call FLTerm hr (by first | decide | omega) rfl (qa_cons (qo_rf (pv 0)) (qa_cons (qo_ev (q_var (pv 1))) (qa_cons (qo_ev (q_op op_fdiv pr_div (qo_rf (pv 2)) (qo_rf (pv 4)))) (qa_cons (qo_ev (q_op op_sub pr_sub (qo_rf (pv 3)) (qo_ev q_int))) qa_nil)))))) qa_nil)))))))
      (qss_one (qs_ret (q_callTy (call_tupleK K) pr_tuple rfl m_tuple PyProof.Rows.Boot.«tuple» (qa_cons (qo_rf (pv 5)) qa_nil))))))), fun _ _ _ _ h => h⟩,
      fn_q F_LTerm scLTerm (by decide) (by decide) ⟨_, fun cdv A outer s H E hr => (qss_cons (qs_set (i := 4) scLTerm.nd rfl (Or.inl rfl) (by decide) (q_call FLTake hr (by first | decide | omega) rfl (qa_cons (qo_rf (pv 0)) (qa_cons (qo_ev q_int) qa_nil))))
      (qss_cons (qs_if (qt_w (qw_or (qt_cmp op_lt pr_cmp2 (qo_rf (pv 3)) (qo_ev q_int) (nomark _)) (qw_or (qt_cmp (L3.op_eqA hr) pr_eqN (qo_rf (pv 4)) (qo_ev q_int) (nomark _)) (qw_or1 (qt_cmp op_lt pr_cmp2 (qo_rf (pv 2)) (qo_ev q_int) (nomark _)))))) (qss_one (qs_ret (q_call FLLeaf hr (by first | decide | omega) rfl (qa_cons (qo_rf (pv 0)) (qa_cons (qo_ev (q_var (pv 1))) qa_nil))))) qss_nil)
      (qss_cons (qs_if (qt_cmp op_lt pr_cmp2 (qo_rf (pv 4)) (qo_ev q_int) (nomark _)) (qss_one (qs_ret (q_tup (qa_cons (qo_ev (q_str (l := [100, 111]))) (qa_cons (qo_ev (q_ix (ix_K K) pr_idx (qo_ev (q_ix (ix_K K) pr_idx (qo_rf (pv 1)) (qo_ev q_int) (fun _ _ => rfl))) (qo_ev (q_call FLTake hr (by first | decide | omega) rfl (qa_cons (qo_rf (pv 0)) (qa_cons (qo_ev q_int) qa_nil)))) (fun _ _ => rfl))) (qa_cons (qo_ev (q_call FLRow hr (by first | decide | omega) rfl (qa_cons (qo_rf (pv 0)) (qa_cons (qo_ev (q_var (pv 1))) (qa_cons (qo_ev (q_op op_sub pr_sub (qo_rf (pv 2)) (qo_ev q_int))) (qa_cons (qo_ev (q_var (pv 3))) (qa_cons (qo_ev (q_op (op_addB K) pr_add (qo_ev q_int) (qo_ev (q_call FLTake hr (by first | decide | omega) rfl (qa_cons (qo_rf (pv 0)) (qa_cons (qo_ev q_int) qa_nil)))))) qa_nil))))))) qa_nil)))))) qss_nil)
      (qss_cons (qs_if (qt_cmp (L3.op_eqA hr) pr_eqN (qo_rf (pv 4)) (qo_ev q_int) (nomark _)) (qss_cons (qs_set (i := 5) scLTerm.nd rfl (Or.inl rfl) (by decide) (q_call FLRow hr (by first | decide | omega) rfl (qa_cons (qo_rf (pv 0)) (qa_cons (qo_ev (q_var (pv 1))) (qa_cons (qo_ev (q_op op_sub pr_sub (qo_rf (pv 2)) (qo_ev q_int))) (qa_cons (qo_ev (q_var (pv 3))) (qa_cons (qo_ev q_int) qa_nil)))))))
      (qss_one (qs_ret (q_tup (qa_cons (qo_ev (q_str (l := [108, 101, 116]))) (qa_cons (qo_ev (q_ix (ix_K K) pr_idx (qo_ev (q_ix (ix_K K) pr_idx (qo_rf (pv 1)) (qo_ev q_int) (fun _ _ => rfl))) (qo_ev (q_call FLTake hr (by first | decide | omega) rfl (qa_cons (qo_rf (pv 0)) (qa_cons (qo_ev q_int) qa_nil)))) (fun _ _ => rfl))) (qa_cons (qo_ev (q_ix (ix_K K) pr_idx (qo_rf (pv 5)) (qo_ev q_int) (fun _ _ => rfl))) (qa_cons (qo_ev (q_ix (ix_K K) pr_idx (qo_rf (pv 5)) (qo_ev q_int) (fun _ _ => rfl))) qa_nil)))))))) qss_nil)
      (qss_cons (qs_if (qt_cmp op_lt pr_cmp2 (qo_rf (pv 4)) (qo_ev q_int) (nomark _)) (qss_cons (qs_set (i := 6) scLTerm.nd rfl (Or.inl rfl) (by decide) (q_call FLNumber hr (by first | decide | omega) rfl (qa_cons (qo_rf (pv 0)) (qa_cons (qo_ev (q_var (pv 1))) (qa_cons (qo_ev (q_callB (call_min2 rfl) pr_min2 rfl m_min PyProof.Rows.Boot.«min» (qa_cons (qo_ev q_int) (qa_cons (qo_ev (q_op op_fdiv pr_div (qo_ev (q_op op_sub pr_sub (qo_rf (pv 2)) (qo_ev q_int))) (qo_ev q_int))) qa_nil)))) qa_nil)))))
      (qss_cons (qs_set (i := 5) scLTerm.nd rfl (Or.inl rfl) (by decide) (q_call FLRow hr (by first | decide | omega) rfl (qa_cons (qo_rf (pv 0)) (qa_cons (qo_ev (q_var (pv 1))) (qa_cons (qo_ev (q_op op_fdiv pr_div (qo_ev (q_op op_mulQ pr_mul (qo_ev (q_op op_sub pr_sub (qo_rf (pv 2)) (qo_ev q_int))) (qo_ev q_int))) (qo_ev q_int))) (qa_cons (qo_ev (q_var (pv 3))) (qa_cons (qo_ev q_int) qa_nil)))))))
      (qss_one (qs_ret (q_tup (qa_cons (qo_ev (q_str (l := [108, 111, 111, 112]))) (qa_cons (qo_ev (q_ix (ix_K K) pr_idx (qo_ev (q_ix (ix_K K) pr_idx (qo_rf (pv 1)) (qo_ev q_int) (fun _ _ => rfl))) (qo_ev (q_call FLTake hr (by first | decide | omega) rfl (qa_cons (qo_rf (pv 0)) (qa_cons (qo_ev q_int) qa_nil)))) (fun _ _ => rfl))) (qa_cons (qo_ev (q_var (pv 6))) (qa_cons (qo_ev (q_ix (ix_K K) pr_idx (qo_ev (q_ix (ix_K K) pr_idx (qo_rf (pv 1)) (qo_ev q_int) (fun _ _ => rfl))) (qo_ev (q_call FLTake hr (by first | decide | omega) rfl (qa_cons (qo_rf (pv 0)) (qa_cons (qo_ev q_int) qa_nil)))) (fun _ _ => rfl))) (qa_cons (qo_ev (q_ix (ix_K K) pr_idx (qo_rf (pv 5)) (qo_ev q_int) (fun _ _ => rfl))) (qa_cons (qo_ev (q_ix (ix_K K) pr_idx (qo_rf (pv 5)) (qo_ev q_int) (fun _ _ => rfl))) qa_nil))))))))))) qss_nil)
      (qss_cons (qs_if (qt_cmp (L3.op_eqA hr) pr_eqN (qo_rf (pv 4)) (qo_ev q_int) (nomark _)) (qss_cons (qs_set (i := 6) scLTerm.nd rfl (Or.inl rfl) (by decide) (q_call FLNumber hr (by first | decide | omega) rfl (qa_cons (qo_rf (pv 0)) (qa_cons (qo_ev (q_var (pv 1))) (qa_cons (qo_ev (q_callB (call_min2 rfl) pr_min2 rfl m_min PyProof.Rows.Boot.«min» (qa_cons (qo_ev q_int) (qa_cons (qo_ev (q_op op_fdiv pr_div (qo_ev (q_op op_sub pr_sub (qo_rf (pv 2)) (qo_ev q_int))) (qo_ev q_int))) qa_nil)))) qa_nil)))))
      (qss_one (qs_ret (q_tup (qa_cons (qo_ev (q_str (l := [112, 105, 99, 107]))) (qa_cons (qo_ev (q_var (pv 6))) (qa_cons (qo_ev (q_call FLRow hr (by first | decide | omega) rfl (qa_cons (qo_rf (pv 0)) (qa_cons (qo_ev (q_var (pv 1))) (qa_cons (qo_ev (q_op op_fdiv pr_div (qo_ev (q_op op_mulQ pr_mul (qo_ev (q_op op_sub pr_sub (qo_rf (pv 2)) (qo_ev q_int))) (qo_ev q_int))) (qo_ev q_int))) (qa_cons (qo_ev (q_var (pv 3))) (qa_cons (qo_ev (q_op (op_addB K) pr_add (qo_ev q_int) (qo_ev (q_call FLTake hr (by first | decide | omega) rfl (qa_cons (qo_rf (pv 0)) (qa_cons (qo_ev q_int) qa_nil)))))) qa_nil))))))) qa_nil))))))) qss_nil)
      (qss_one (qs_ret (q_tup (qa_cons (qo_ev (q_str (l := [99, 97, 108, 108]))) (qa_cons (qo_ev (q_ix (ix_K K) pr_idx (qo_ev (q_ix (ix_K K) pr_idx (qo_rf (pv 1)) (qo_ev q_int) (fun _ _ => rfl))) (qo_ev (q_call FLTake hr (by first | decide | omega) rfl (qa_cons (qo_rf (pv 0)) (qa_cons (qo_ev q_int) qa_nil)))) (fun _ _ => rfl))) (qa_cons (qo_ev (q_call FLArgs hr (by first | decide | omega) rfl (qa_cons (qo_rf (pv 0)) (qa_cons (qo_ev (q_var (pv 1))) (qa_cons (qo_ev (q_op op_sub pr_sub (qo_rf (pv 2)) (qo_ev q_int))) (qa_cons (qo_ev (q_var (pv 3))) qa_nil)))))) qa_nil)))))))))))), fun _ _ _ _ h => h⟩⟩
end
abbrev sBracketed : Stmt := top 5
theorem scBracketed : FnScope ["opening", "words", "closing", "told", "word"] ["opening", "words", "closing"] (defScope sBracketed) := ⟨rfl, rfl, rfl, by decide +kernel, rfl, by decide +kernel, by decide +kernel⟩
section
variable {P : Program} {w : World} {K : PySem.W.Frag} {mg : Str → Option Value} {base : Heap} {f : Addr} {fd : FuncData}
theorem ok_Bracketed (F : Fun K "bracketed" "bracketed" sBracketed f fd)  : FnOk P w K mg base CX0 1 f fd ["opening", "words", "closing"] (spq K 3 [] rBracketed) :=
  fn_q F scBracketed (by decide) (by decide) ⟨_, fun cdv A outer s H E hr => (qss_cons (qs_set (i := 3) scBracketed.nd rfl (Or.inl rfl) (by decide) (q_lst (qa_cons (qo_ev (q_var (pv 0))) (qa_cons (qo_ev (q_ix (ix_K K) pr_idx (qo_rf (pv 1)) (qo_ev q_int) (fun _ _ => rfl))) qa_nil))))
      (qss_cons (qs_for PassesOwn.never rfl (qi_seq (q_slL (qo_rf (pv 1)) (qo_ev q_int))) (pg_name (i := 4) scBracketed.nd rfl (Or.inl rfl)) tg_name (by decide) (qss_cons (qs_expr (q_mut PySem.F.slot_list_append PySem.F.type_list_append mt_append mu_append (pv 3) (qa_cons (qo_ev (q_str (l := [32]))) qa_nil)))
      (qss_one (qs_expr (q_mut PySem.F.slot_list_append PySem.F.type_list_append mt_append mu_append (pv 3) (qa_cons (qo_ev (q_var (pv 4))) qa_nil))))))
      (qss_cons (qs_expr (q_mut PySem.F.slot_list_append PySem.F.type_list_append mt_append mu_append (pv 3) (qa_cons (qo_ev (q_var (pv 2))) qa_nil)))
      (qss_one (qs_ret (q_mov (pv 3))))))), fun _ _ _ _ h => h⟩
end
abbrev sWordsOf : Stmt := top 4
theorem scWordsOf : FnScope ["term", "kind"] ["term"] (defScope sWordsOf) := ⟨rfl, rfl, rfl, by decide +kernel, rfl, by decide +kernel, by decide +kernel⟩
section
variable {P : Program} {w : World} {K : PySem.W.Frag} {mg : Str → Option Value} {base : Heap} {f : Addr} {fd : FuncData}
theorem ok_WordsOf (F : Fun K "words_of" "words_of" sWordsOf f fd) (m_list : mg "list" = none) : FnOk P w K mg base CX0 1 f fd ["term"] (spq K 1 [] rWordsOf) :=
  fn_q F scWordsOf (by decide) (by decide) ⟨_, fun cdv A outer s H E hr => (qss_cons (qs_set (i := 1) scWordsOf.nd rfl (Or.inl rfl) (by decide) (q_ix (ix_K K) pr_idx (qo_rf (pv 0)) (qo_ev q_int) (fun _ _ => rfl)))
      (qss_cons (qs_if (qt_cmp (L3.op_eqA hr) pr_eqN (qo_rf (pv 1)) (qo_ev (q_str (l := [108, 101, 116]))) (nomark _)) (qss_one (qs_ret (q_lst (qa_cons (qo_ev (q_str (l := [108, 101, 116]))) (qa_cons (qo_ev (q_ix (ix_K K) pr_idx (qo_rf (pv 0)) (qo_ev q_int) (fun _ _ => rfl))) (qa_cons (qo_ev (q_ix (ix_K K) pr_idx (qo_rf (pv 0)) (qo_ev q_int) (fun _ _ => rfl))) (qa_cons (qo_ev (q_ix (ix_K K) pr_idx (qo_rf (pv 0)) (qo_ev q_int) (fun _ _ => rfl))) qa_nil))))))) qss_nil)
      (qss_cons (qs_if (qt_cmp (L3.op_eqA hr) pr_eqN (qo_rf (pv 1)) (qo_ev (q_str (l := [108, 111, 111, 112]))) (nomark _)) (qss_one (qs_ret (q_lst (qa_cons (qo_ev (q_str (l := [108, 111, 111, 112]))) (qa_cons (qo_ev (q_op (op_addB K) pr_add (qo_ev (q_str (l := [35]))) (qo_ev (q_ix (ix_K K) pr_idx (qo_rf (pv 0)) (qo_ev q_int) (fun _ _ => rfl))))) (qa_cons (qo_ev (q_ix (ix_K K) pr_idx (qo_rf (pv 0)) (qo_ev q_int) (fun _ _ => rfl))) (qa_cons (qo_ev (q_ix (ix_K K) pr_idx (qo_rf (pv 0)) (qo_ev q_int) (fun _ _ => rfl))) (qa_cons (qo_ev (q_ix (ix_K K) pr_idx (qo_rf (pv 0)) (qo_ev q_int) (fun _ _ => rfl))) (qa_cons (qo_ev (q_ix (ix_K K) pr_idx (qo_rf (pv 0)) (qo_ev q_int) (fun _ _ => rfl))) qa_nil))))))))) qss_nil)
      (qss_cons (qs_if (qt_cmp (L3.op_eqA hr) pr_eqN (qo_rf (pv 1)) (qo_ev (q_str (l := [112, 105, 99, 107]))) (nomark _)) (qss_one (qs_ret (q_op (op_addB K) pr_add (qo_ev (q_lst (qa_cons (qo_ev (q_str (l := [112, 105, 99, 107]))) (qa_cons (qo_ev (q_ix (ix_K K) pr_idx (qo_rf (pv 0)) (qo_ev q_int) (fun _ _ => rfl))) qa_nil)))) (qo_ev (q_callTy (call_listK K) pr_list rfl m_list PyProof.Rows.Boot.«list» (qa_cons (qo_ev (q_ix (ix_K K) pr_idx (qo_rf (pv 0)) (qo_ev q_int) (fun _ _ => rfl))) qa_nil)))))) qss_nil)
      (qss_cons (qs_if (qt_cmp (L3.op_eqA hr) pr_eqN (qo_rf (pv 1)) (qo_ev (q_str (l := [99, 97, 108, 108]))) (nomark _)) (qss_one (qs_ret (q_op (op_addB K) pr_add (qo_ev (q_lst (qa_cons (qo_ev (q_str (l := [99, 97, 108, 108]))) (qa_cons (qo_ev (q_ix (ix_K K) pr_idx (qo_rf (pv 0)) (qo_ev q_int) (fun _ _ => rfl))) qa_nil)))) (qo_ev (q_callTy (call_listK K) pr_list rfl m_list PyProof.Rows.Boot.«list» (qa_cons (qo_ev (q_ix (ix_K K) pr_idx (qo_rf (pv 0)) (qo_ev q_int) (fun _ _ => rfl))) qa_nil)))))) qss_nil)
      (qss_one (qs_ret (q_op (op_addB K) pr_add (qo_ev (q_lst (qa_cons (qo_ev (q_ix (ix_K K) pr_idx (qo_rf (pv 0)) (qo_ev q_int) (fun _ _ => rfl))) qa_nil))) (qo_ev (q_callTy (call_listK K) pr_list rfl m_list PyProof.Rows.Boot.«list» (qa_cons (qo_ev (q_ix (ix_K K) pr_idx (qo_rf (pv 0)) (qo_ev q_int) (fun _ _ => rfl))) qa_nil))))))))))), fun _ _ _ _ h => h⟩
end
abbrev sSpread : Stmt := top 3
theorem scSpread : FnScope ["term", "kind"] ["term"] (defScope sSpread) := ⟨rfl, rfl, rfl, by decide +kernel, rfl, by decide +kernel, by decide +kernel⟩
section
variable {P : Program} {w : World} {K : PySem.W.Frag} {mg : Str → Option Value} {base : Heap} {f : Addr} {fd : FuncData}
theorem ok_Spread (F : Fun K "spread" "spread" sSpread f fd) (FBracketed : Fx P w K mg base 1 "bracketed" ["opening", "words", "closing"] (spq K 3 [] rBracketed)) (FWordsOf : Fx P w K mg base 1 "words_of" ["term"] (spq K 1 [] rWordsOf)) (m_str : mg "str" = none) : FnOk P w K mg base CX0 2 f fd ["term"] (spq K 1 [] rSpread) :=
  fn_q F scSpread (by decide) (by decide) ⟨_, fun cdv A outer s H E hr => (qss_cons (qs_set (i := 1) scSpread.nd rfl (Or.inl rfl) (by decide) (q_ix (ix_K K) pr_idx (qo_rf (pv 0)) (qo_ev q_int) (fun _ _ => rfl)))
      (qss_cons (qs_if (qt_w (qw_or (qt_cmp (L3.op_eqA hr) pr_eqN (qo_rf (pv 1)) (qo_ev (q_str (l := [110, 97, 109, 101]))) (nomark _)) (qw_or1 (qt_cmp (L3.op_eqA hr) pr_eqN (qo_rf (pv 1)) (qo_ev (q_str (l := [102, 105, 120, 101, 100]))) (nomark _))))) (qss_one (qs_ret (q_lst (qa_cons (qo_ev (q_ix (ix_K K) pr_idx (qo_rf (pv 0)) (qo_ev q_int) (fun _ _ => rfl))) qa_nil)))) qss_nil)
      (qss_cons (qs_if (qt_cmp (L3.op_eqA hr) pr_eqN (qo_rf (pv 1)) (qo_ev (q_str (l := [110, 117, 109]))) (nomark _)) (qss_one (qs_ret (q_lst (qa_cons (qo_ev (q_callTy call_str_int pr_strI rfl m_str PyProof.Rows.Boot.«str» (qa_cons (qo_ev (q_ix (ix_K K) pr_idx (qo_rf (pv 0)) (qo_ev q_int) (fun _ _ => rfl))) qa_nil))) qa_nil)))) qss_nil)
      (qss_cons (qs_if (qt_cmp (L3.op_eqA hr) pr_eqN (qo_rf (pv 1)) (qo_ev (q_str (l := [99, 111, 117, 110, 116]))) (nomark _)) (qss_one (qs_ret (q_lst (qa_cons (qo_ev (q_op (op_addB K) pr_add (qo_ev (q_str (l := [35]))) (qo_ev (q_ix (ix_K K) pr_idx (qo_rf (pv 0)) (qo_ev q_int) (fun _ _ => rfl))))) qa_nil)))) qss_nil)
      (qss_cons (qs_if (qt_cmp (L3.op_eqA hr) pr_eqN (qo_rf (pv 1)) (qo_ev (q_str (l := [111, 112]))) (nomark _)) (qss_one (qs_ret (q_call FBracketed hr (by first | decide | omega) rfl (qa_cons (qo_ev (q_str (l := [91]))) (qa_cons (qo_ev (q_lst (qa_cons (qo_ev (q_ix (ix_K K) pr_idx (qo_rf (pv 0)) (qo_ev q_int) (fun _ _ => rfl))) (qa_cons (qo_ev (q_ix (ix_K K) pr_idx (qo_rf (pv 0)) (qo_ev q_int) (fun _ _ => rfl))) (qa_cons (qo_ev (q_ix (ix_K K) pr_idx (qo_rf (pv 0)) (qo_ev q_int) (fun _ _ => rfl))) qa_nil))))) (qa_cons (qo_ev (q_str (l := [93]))) qa_nil)))))) qss_nil)
      (qss_one (qs_ret (q_call FBracketed hr (by first | decide | omega) rfl (qa_cons (qo_ev (q_str (l := [40]))) (qa_cons (qo_ev (q_call FWordsOf hr (by first | decide | omega) rfl (qa_cons (qo_ev (q_var (pv 0))) qa_nil))) (qa_cons (qo_ev (q_str (l := [41]))) qa_nil))))))))))), fun _ _ _ _ h => h⟩
end
abbrev sTermText : Stmt := top 2
theorem scTermText : FnScope ["term", "written", "waiting", "one"] ["term"] (defScope sTermText) := ⟨rfl, rfl, rfl, by decide +kernel, rfl, by decide +kernel, by decide +kernel⟩
section
variable {P : Program} {w : World} {K : PySem.W.Frag} {mg : Str → Option Value} {base : Heap} {f : Addr} {fd : FuncData}
theorem ok_TermText (F : Fun K "term_text" "term_text" sTermText f fd) (FSpread : Fx P w K mg base 2 "spread" ["term"] (spq K 1 [] rSpread)) (m_str : mg "str" = none) (m_isinstance : mg "isinstance" = none) (m_list : mg "list" = none) (m_reversed : mg "reversed" = none) : FnOk P w K mg base CX0 3 f fd ["term"] (spq K 1 [] rTermText) :=
  fn_q F scTermText (by decide) (by decide) ⟨_, fun cdv A outer s H E hr => (qss_cons (qs_set (i := 1) scTermText.nd rfl (Or.inl rfl) (by decide) (q_lst qa_nil))
      (qss_cons (qs_set (i := 2) scTermText.nd rfl (Or.inl rfl) (by decide) (q_lst (qa_cons (qo_ev (q_var (pv 0))) qa_nil)))
      (qss_cons (qs_while FUEL PassesOwn.never (qt_tru (qo_rf (pv 2)) (fun _ => rfl)) (qss_cons (qs_set (i := 3) scTermText.nd rfl (Or.inl rfl) (by decide) (q_mut0 PySem.F.slot_list_pop PySem.F.type_list_pop (MtM.to0 mt_pop) mu_pop (pv 2)))
      (qss_one (qs_if (qt_tru (qo_ev (q_callB (call_isiK K) pr_isi rfl m_isinstance PyProof.Rows.Boot.«isinstance» (qa_cons (qo_rf (pv 3)) (qa_cons (qo_ev (q_ty (pe_bltn (v := .ty "str") rfl m_str PyProof.Rows.Boot.«str» rfl))) qa_nil)))) (fun _ => rfl)) (qss_one (qs_expr (q_mut PySem.F.slot_list_append PySem.F.type_list_append mt_append mu_append (pv 1) (qa_cons (qo_ev (q_var (pv 3))) qa_nil)))) (qss_one (qs_expr (q_mut PySem.F.slot_list_extend PySem.F.type_list_extend mt_extend mu_extend (pv 2) (qa_cons (qo_ev (q_listRev rfl rfl m_list rfl m_reversed (qo_ev (q_call FSpread hr (by first | decide | omega) rfl (qa_cons (qo_ev (q_var (pv 3))) qa_nil))))) qa_nil))))))))
      (qss_one (qs_ret (q_meth PySem.F.plainAttrs_str PySem.F.slot_str_join PySem.F.type_str_join (mt_joinK K) pr_join (qo_ev (q_str (l := []))) (qa_cons (qo_rf (pv 1)) qa_nil))))))), fun _ _ _ _ h => h⟩
end
abbrev sLSaid : Stmt := top 16
theorem scLSaid : FnScope ["_law_part", "_law_head", "_law_text", "_law_one"] ["_law_part"] (defScope sLSaid) := ⟨rfl, rfl, rfl, by decide +kernel, rfl, by decide +kernel, by decide +kernel⟩
section
variable {P : Program} {w : World} {K : PySem.W.Frag} {mg : Str → Option Value} {base : Heap} {f : Addr} {fd : FuncData}
theorem ok_LSaid (F : Fun K "_law_said" "_law_said" sLSaid f fd) (mf : mg "_law_said" = some (.ref f)) (bf : Binds K fd ["_law_part"] []) (m_str : mg "str" = none) : ∀ n, FnOk P w K mg base CX0 (n + 1) f fd ["_law_part"] (spq K 1 [] (rLSaid n))
  | 0 => ⟨fun vs H Q E h => (by obtain ⟨_, _, _, _, _, _, _, _, _, _, _, _, _, h, _⟩ := h; cases h), fun A outer s H args us vs Q E hr e0 hb r h => (by obtain ⟨_, _, _, _, _, _, _, _, _, _, _, _, _, h, _⟩ := h; cases h)⟩
  | n + 1 => by
    have FLSaid : Fx P w K mg base (n + 1) "_law_said" ["_law_part"] (spq K 1 [] (rLSaid n)) := ⟨f, _, ok_LSaid F mf bf m_str n, mf, F.kp, bf⟩
    exact fn_q F scLSaid (by decide) (by decide) ⟨_, fun cdv A outer s H E hr => (qss_cons (qs_set (i := 1) scLSaid.nd rfl (Or.inl rfl) (by decide) (q_ix (ix_K K) pr_idx (qo_rf (pv 0)) (qo_ev q_int) (fun _ _ => rfl)))
      (qss_cons (qs_if (qt_w (qw_or (qt_cmp (L3.op_eqA hr) pr_eqN (qo_rf (pv 1)) (qo_ev (q_str (l := [110, 97, 109, 101]))) (nomark _)) (qw_or1 (qt_cmp (L3.op_eqA hr) pr_eqN (qo_rf (pv 1)) (qo_ev (q_str (l := [102, 105, 120, 101, 100]))) (nomark _))))) (qss_one (qs_ret (q_ix (ix_K K) pr_idx (qo_rf (pv 0)) (qo_ev q_int) (fun _ _ => rfl)))) qss_nil)
      (qss_cons (qs_if (qt_cmp (L3.op_eqA hr) pr_eqN (qo_rf (pv 1)) (qo_ev (q_str (l := [110, 117, 109]))) (nomark _)) (qss_one (qs_ret (q_callTy call_str_int pr_strI rfl m_str PyProof.Rows.Boot.«str» (qa_cons (qo_ev (q_ix (ix_K K) pr_idx (qo_rf (pv 0)) (qo_ev q_int) (fun _ _ => rfl))) qa_nil)))) qss_nil)
      (qss_cons (qs_if (qt_cmp (L3.op_eqA hr) pr_eqN (qo_rf (pv 1)) (qo_ev (q_str (l := [99, 111, 117, 110, 116]))) (nomark _)) (qss_one (qs_ret (q_op (op_addB K) pr_add (qo_ev (q_str (l := [35]))) (qo_ev (q_ix (ix_K K) pr_idx (qo_rf (pv 0)) (qo_ev q_int) (fun _ _ => rfl)))))) qss_nil)
      (qss_cons (qs_if (qt_cmp (L3.op_eqA hr) pr_eqN (qo_rf (pv 1)) (qo_ev (q_str (l := [111, 112]))) (nomark _)) (qss_one (qs_ret (q_op (op_addB K) pr_add (qo_ev (q_op (op_addB K) pr_add (qo_ev (q_op (op_addB K) pr_add (qo_ev (q_op (op_addB K) pr_add (qo_ev (q_op (op_addB K) pr_add (qo_ev (q_op (op_addB K) pr_add (qo_ev (q_str (l := [91]))) (qo_ev (q_call FLSaid hr (by first | decide | omega) rfl (qa_cons (qo_ev (q_ix (ix_K K) pr_idx (qo_rf (pv 0)) (qo_ev q_int) (fun _ _ => rfl))) qa_nil))))) (qo_ev (q_str (l := [32]))))) (qo_ev (q_ix (ix_K K) pr_idx (qo_rf (pv 0)) (qo_ev q_int) (fun _ _ => rfl))))) (qo_ev (q_str (l := [32]))))) (qo_ev (q_call FLSaid hr (by first | decide | omega) rfl (qa_cons (qo_ev (q_ix (ix_K K) pr_idx (qo_rf (pv 0)) (qo_ev q_int) (fun _ _ => rfl))) qa_nil))))) (qo_ev (q_str (l := [93])))))) qss_nil)
      (qss_cons (qs_if (qt_cmp (L3.op_eqA hr) pr_eqN (qo_rf (pv 1)) (qo_ev (q_str (l := [100, 111]))) (nomark _)) (qss_one (qs_ret (q_op (op_addB K) pr_add (qo_ev (q_op (op_addB K) pr_add (qo_ev (q_str (l := [40]))) (qo_ev (q_meth PySem.F.plainAttrs_str PySem.F.slot_str_join PySem.F.type_str_join (mt_joinK K) pr_join (qo_ev (q_str (l := [32]))) (qa_cons (qo_ev (q_op (op_addB K) pr_add (qo_ev (q_lst (qa_cons (qo_ev (q_ix (ix_K K) pr_idx (qo_rf (pv 0)) (qo_ev q_int) (fun _ _ => rfl))) qa_nil))) (qo_ev (q_comp (js := [3]) (by rfl) rfl (qi_seq (q_ix (ix_K K) pr_idx (qo_rf (pv 0)) (qo_ev q_int) (fun _ _ => rfl))) (fun _ _ _ _ _ => (pg_name (i := 3) scLSaid.nd rfl (Or.inl rfl) (.inr rfl))) (gok_name (by decide)) tg_name (fun _ _ _ _ _ => (q_call FLSaid hr (by first | decide | omega) rfl (qa_cons (qo_ev (q_var (pv 3))) qa_nil))))))) qa_nil))))) (qo_ev (q_str (l := [41])))))) qss_nil)
      (qss_cons (qs_if (qt_cmp (L3.op_eqA hr) pr_eqN (qo_rf (pv 1)) (qo_ev (q_str (l := [108, 101, 116]))) (nomark _)) (qss_one (qs_ret (q_op (op_addB K) pr_add (qo_ev (q_op (op_addB K) pr_add (qo_ev (q_op (op_addB K) pr_add (qo_ev (q_op (op_addB K) pr_add (qo_ev (q_op (op_addB K) pr_add (qo_ev (q_op (op_addB K) pr_add (qo_ev (q_str (l := [40, 108, 101, 116, 32]))) (qo_ev (q_ix (ix_K K) pr_idx (qo_rf (pv 0)) (qo_ev q_int) (fun _ _ => rfl))))) (qo_ev (q_str (l := [32]))))) (qo_ev (q_call FLSaid hr (by first | decide | omega) rfl (qa_cons (qo_ev (q_ix (ix_K K) pr_idx (qo_rf (pv 0)) (qo_ev q_int) (fun _ _ => rfl))) qa_nil))))) (qo_ev (q_str (l := [32]))))) (qo_ev (q_call FLSaid hr (by first | decide | omega) rfl (qa_cons (qo_ev (q_ix (ix_K K) pr_idx (qo_rf (pv 0)) (qo_ev q_int) (fun _ _ => rfl))) qa_nil))))) (qo_ev (q_str (l := [41])))))) qss_nil)
      (qss_cons (qs_if (qt_cmp (L3.op_eqA hr) pr_eqN (qo_rf (pv 1)) (qo_ev (q_str (l := [108, 111, 111, 112]))) (nomark _)) (qss_cons (qs_set (i := 2) scLSaid.nd rfl (Or.inl rfl) (by decide) (q_op (op_addB K) pr_add (qo_ev (q_op (op_addB K) pr_add (qo_ev (q_op (op_addB K) pr_add (qo_ev (q_op (op_addB K) pr_add (qo_ev (q_op (op_addB K) pr_add (qo_ev (q_str (l := [40, 108, 111, 111, 112, 32, 35]))) (qo_ev (q_ix (ix_K K) pr_idx (qo_rf (pv 0)) (qo_ev q_int) (fun _ _ => rfl))))) (qo_ev (q_str (l := [32]))))) (qo_ev (q_call FLSaid hr (by first | decide | omega) rfl (qa_cons (qo_ev (q_ix (ix_K K) pr_idx (qo_rf (pv 0)) (qo_ev q_int) (fun _ _ => rfl))) qa_nil))))) (qo_ev (q_str (l := [32]))))) (qo_ev (q_ix (ix_K K) pr_idx (qo_rf (pv 0)) (qo_ev q_int) (fun _ _ => rfl)))))
      (qss_one (qs_ret (q_op (op_addB K) pr_add (qo_ev (q_op (op_addB K) pr_add (qo_ev (q_op (op_addB K) pr_add (qo_ev (q_op (op_addB K) pr_add (qo_ev (q_op (op_addB K) pr_add (qo_rf (pv 2)) (qo_ev (q_str (l := [32]))))) (qo_ev (q_call FLSaid hr (by first | decide | omega) rfl (qa_cons (qo_ev (q_ix (ix_K K) pr_idx (qo_rf (pv 0)) (qo_ev q_int) (fun _ _ => rfl))) qa_nil))))) (qo_ev (q_str (l := [32]))))) (qo_ev (q_call FLSaid hr (by first | decide | omega) rfl (qa_cons (qo_ev (q_ix (ix_K K) pr_idx (qo_rf (pv 0)) (qo_ev q_int) (fun _ _ => rfl))) qa_nil))))) (qo_ev (q_str (l := [41]))))))) qss_nil)
      (qss_cons (qs_if (qt_cmp (L3.op_eqA hr) pr_eqN (qo_rf (pv 1)) (qo_ev (q_str (l := [112, 105, 99, 107]))) (nomark _)) (qss_one (qs_ret (q_op (op_addB K) pr_add (qo_ev (q_op (op_addB K) pr_add (qo_ev (q_str (l := [40, 112, 105, 99, 107, 32]))) (qo_ev (q_meth PySem.F.plainAttrs_str PySem.F.slot_str_join PySem.F.type_str_join (mt_joinK K) pr_join (qo_ev (q_str (l := [32]))) (qa_cons (qo_ev (q_op (op_addB K) pr_add (qo_ev (q_lst (qa_cons (qo_ev (q_call FLSaid hr (by first | decide | omega) rfl (qa_cons (qo_ev (q_ix (ix_K K) pr_idx (qo_rf (pv 0)) (qo_ev q_int) (fun _ _ => rfl))) qa_nil))) qa_nil))) (qo_ev (q_comp (js := [3]) (by rfl) rfl (qi_seq (q_ix (ix_K K) pr_idx (qo_rf (pv 0)) (qo_ev q_int) (fun _ _ => rfl))) (fun _ _ _ _ _ => (pg_name (i := 3) scLSaid.nd rfl (Or.inl rfl) (.inr rfl))) (gok_name (by decide)) tg_name (fun _ _ _ _ _ => (q_call FLSaid hr (by first | decide | omega) rfl (qa_cons (qo_ev (q_var (pv 3))) qa_nil))))))) qa_nil))))) (qo_ev (q_str (l := [41])))))) qss_nil)
      (qss_one (qs_ret (q_op (op_addB K) pr_add (qo_ev (q_op (op_addB K) pr_add (qo_ev (q_str (l := [40, 99, 97, 108, 108, 32]))) (qo_ev (q_meth PySem.F.plainAttrs_str PySem.F.slot_str_join PySem.F.type_str_join (mt_joinK K) pr_join (qo_ev (q_str (l := [32]))) (qa_cons (qo_ev (q_op (op_addB K) pr_add (qo_ev (q_lst (qa_cons (qo_ev (q_ix (ix_K K) pr_idx (qo_rf (pv 0)) (qo_ev q_int) (fun _ _ => rfl))) qa_nil))) (qo_ev (q_comp (js := [3]) (by rfl) rfl (qi_seq (q_ix (ix_K K) pr_idx (qo_rf (pv 0)) (qo_ev q_int) (fun _ _ => rfl))) (fun _ _ _ _ _ => (pg_name (i := 3) scLSaid.nd rfl (Or.inl rfl) (.inr rfl))) (gok_name (by decide)) tg_name (fun _ _ _ _ _ => (q_call FLSaid hr (by first | decide | omega) rfl (qa_cons (qo_ev (q_var (pv 3))) qa_nil))))))) qa_nil))))) (qo_ev (q_str (l := [41]))))))))))))))), fun _ _ _ _ h => h⟩
end
abbrev sShapeText : Stmt := top 1
theorem scShapeText : FnScope ["shape", "deeds", "name", "places"] ["shape"] (defScope sShapeText) := ⟨rfl, rfl, rfl, by decide +kernel, rfl, by decide +kernel, by decide +kernel⟩
section
variable {P : Program} {w : World} {K : PySem.W.Frag} {mg : Str → Option Value} {base : Heap} {f : Addr} {fd : FuncData}
theorem ok_ShapeText (F : Fun K "shape_text" "shape_text" sShapeText f fd) (m_list : mg "list" = none) : FnOk P w K mg base CX0 1 f fd ["shape"] (spq K 1 [] rShapeText) :=
  fn_q F scShapeText (by decide) (by decide) ⟨_, fun cdv A outer s H E hr => (qss_cons (qs_setC (i := 1) scShapeText.nd rfl (Or.inl rfl) (by decide) (js := [2, 3]) (by rfl) rfl (qi_seq (q_ix (ix_K K) pr_idx (qo_rf (pv 0)) (qo_ev q_int) (fun _ _ => rfl))) (fun _ _ _ _ _ => (pg_tupK K (n := 2) rfl (pgs_cons (pg_name (i := 2) scShapeText.nd rfl (Or.inl rfl) (.inr rfl)) (pgs_cons (pg_name (i := 3) scShapeText.nd rfl (Or.inl rfl) (.inr rfl)) pgs_nil)))) (gok_tup (gsok_cons (by decide) (gsok_cons (by decide) gsok_nil))) (tg_tup (tgs_cons tg_name (tgs_cons tg_name tgs_nil)) (len_cons (len_cons len_nil))) (fun _ _ _ _ _ => (q_joined (qj_cons (q_fv (q_var (pv 2))) (qj_cons (q_str (l := [47])) (qj_cons (q_fv (q_var (pv 3))) qj_nil))))))
      (qss_one (qs_ret (q_meth PySem.F.plainAttrs_str PySem.F.slot_str_join PySem.F.type_str_join (mt_joinK K) pr_join (qo_ev (q_str (l := [32]))) (qa_cons (qo_ev (q_op (op_addB K) pr_add (qo_ev (q_op (op_addB K) pr_add (qo_ev (q_op (op_addB K) pr_add (qo_ev (q_lst (qa_cons (qo_ev (q_str (l := [115, 104, 97, 112, 101]))) qa_nil))) (qo_ev (q_callTy (call_listK K) pr_list rfl m_list PyProof.Rows.Boot.«list» (qa_cons (qo_ev (q_ix (ix_K K) pr_idx (qo_rf (pv 0)) (qo_ev q_int) (fun _ _ => rfl))) qa_nil))))) (qo_ev (q_lst (qa_cons (qo_ev (q_str (l := [124]))) qa_nil))))) (qo_rf (pv 1)))) qa_nil))))), fun _ _ _ _ h => h⟩
end
abbrev sLShapeSaid : Stmt := top 18
theorem scLShapeSaid : FnScope ["_law_shape_here", "_law_words", "_law_name", "_law_reach"] ["_law_shape_here"] (defScope sLShapeSaid) := ⟨rfl, rfl, rfl, by decide +kernel, rfl, by decide +kernel, by decide +kernel⟩
section
variable {P : Program} {w : World} {K : PySem.W.Frag} {mg : Str → Option Value} {base : Heap} {f : Addr} {fd : FuncData}
theorem ok_LShapeSaid (F : Fun K "_law_shape_said" "_law_shape_said" sLShapeSaid f fd) (m_list : mg "list" = none) (m_str : mg "str" = none) : FnOk P w K mg base CX0 1 f fd ["_law_shape_here"] (spq K 1 [] rLShapeSaid) :=
  fn_q F scLShapeSaid (by decide) (by decide) ⟨_, fun cdv A outer s H E hr => (qss_cons (qs_set (i := 1) scLShapeSaid.nd rfl (Or.inl rfl) (by decide) (q_op (op_addB K) pr_add (qo_ev (q_op (op_addB K) pr_add (qo_ev (q_lst (qa_cons (qo_ev (q_str (l := [115, 104, 97, 112, 101]))) qa_nil))) (qo_ev (q_callTy (call_listK K) pr_list rfl m_list PyProof.Rows.Boot.«list» (qa_cons (qo_ev (q_ix (ix_K K) pr_idx (qo_rf (pv 0)) (qo_ev q_int) (fun _ _ => rfl))) qa_nil))))) (qo_ev (q_lst (qa_cons (qo_ev (q_str (l := [124]))) qa_nil)))))
      (qss_one (qs_ret (q_meth PySem.F.plainAttrs_str PySem.F.slot_str_join PySem.F.type_str_join (mt_joinK K) pr_join (qo_ev (q_str (l := [32]))) (qa_cons (qo_ev (q_op (op_addB K) pr_add (qo_rf (pv 1)) (qo_ev (q_comp (js := [2, 3]) (by rfl) rfl (qi_seq (q_ix (ix_K K) pr_idx (qo_rf (pv 0)) (qo_ev q_int) (fun _ _ => rfl))) (fun _ _ _ _ _ => (pg_tupK K (n := 2) rfl (pgs_cons (pg_name (i := 2) scLShapeSaid.nd rfl (Or.inl rfl) (.inr rfl)) (pgs_cons (pg_name (i := 3) scLShapeSaid.nd rfl (Or.inl rfl) (.inr rfl)) pgs_nil)))) (gok_tup (gsok_cons (by decide) (gsok_cons (by decide) gsok_nil))) (tg_tup (tgs_cons tg_name (tgs_cons tg_name tgs_nil)) (len_cons (len_cons len_nil))) (fun _ _ _ _ _ => (q_op (op_addB K) pr_add (qo_ev (q_op (op_addB K) pr_add (qo_rf (pv 2)) (qo_ev (q_str (l := [47]))))) (qo_ev (q_callTy call_str_int pr_strI rfl m_str PyProof.Rows.Boot.«str» (qa_cons (qo_rf (pv 3)) qa_nil))))))))) qa_nil))))), fun _ _ _ _ h => h⟩
end
abbrev sLaw : Stmt := top 19
theorem scLaw : FnScope ["_law_script", "_law_feed_here", "_law_pool_here", "_law_shape_here", "_law_k", "_law_term_here", "_law_turn", "_law_found"] ["_law_script"] (defScope sLaw) := ⟨rfl, rfl, rfl, by decide +kernel, rfl, by decide +kernel, by decide +kernel⟩
section
variable {P : Program} {w : World} {K : PySem.W.Frag} {mg : Str → Option Value} {base : Heap} {f : Addr} {fd : FuncData}
theorem ok_Law (F : Fun K "law" "law" sLaw f fd) (FLFeed : Fx P w K mg base 1 "_law_feed" ["_law_script", "_law_k"] (spq K 2 [] rLFeed)) (FLPool : Fx P w K mg base 3 "_law_pool" ["_law_feed_here"] (spq K 1 [0] rLPool)) (FLShape : Fx P w K mg base 3 "_law_shape" ["_law_feed_here"] (spq K 1 [0] rLShape)) (FLTerm : Fx P w K mg base 103 "_law_term" ["_law_feed_here", "_law_pool_here", "_law_room", "_law_down"] (spq K 4 [0] (rLTerm 30))) (FLTake : Fx P w K mg base 1 "_law_take" ["_law_feed_here", "_law_many"] (spq K 2 [0] rLTake)) (FTermText : Fx P w K mg base 3 "term_text" ["term"] (spq K 1 [] rTermText)) (FLSaid : Fx P w K mg base 101 "_law_said" ["_law_part"] (spq K 1 [] (rLSaid 100))) (FShapeText : Fx P w K mg base 1 "shape_text" ["shape"] (spq K 1 [] rShapeText)) (FLShapeSaid : Fx P w K mg base 1 "_law_shape_said" ["_law_shape_here"] (spq K 1 [] rLShapeSaid)) (m_range : mg "range" = none) (m_str : mg "str" = none) (m_isinstance : mg "isinstance" = none) : FnOk P w K mg base CX0 104 f fd ["_law_script"] (spq K 1 [] rLaw) :=
  fn_q F scLaw (by decide) (by decide) ⟨_, fun cdv A outer s H E hr => (qss_cons (qs_set (i := 1) scLaw.nd rfl (Or.inl rfl) (by decide) (q_call FLFeed hr (by first | decide | omega) rfl (qa_cons (qo_ev (q_var (pv 0))) (qa_cons (qo_ev q_int) qa_nil))))
      (qss_cons (qs_set (i := 2) scLaw.nd rfl (Or.inl rfl) (by decide) (q_call FLPool hr (by first | decide | omega) rfl (qa_cons (qo_rf (pv 1)) qa_nil)))
      (qss_cons (qs_set (i := 3) scLaw.nd rfl (Or.inl rfl) (by decide) (q_call FLShape hr (by first | decide | omega) rfl (qa_cons (qo_ev (q_call FLFeed hr (by first | decide | omega) rfl (qa_cons (qo_ev (q_var (pv 0))) (qa_cons (qo_ev q_int) qa_nil)))) qa_nil)))
      (qss_cons (qs_for PassesOwn.never rfl (qi_rng1 rfl m_range (qo_ev q_int)) (pg_name (i := 4) scLaw.nd rfl (Or.inl rfl)) tg_name (by decide) (qss_cons (qs_set (i := 5) scLaw.nd rfl (Or.inl rfl) (by decide) (q_call FLTerm hr (by first | decide | omega) rfl (qa_cons (qo_rf (pv 1)) (qa_cons (qo_ev (q_var (pv 2))) (qa_cons (qo_ev (q_op (op_addB K) pr_add (qo_ev q_int) (qo_ev (q_call FLTake hr (by first | decide | omega) rfl (qa_cons (qo_rf (pv 1)) (qa_cons (qo_ev q_int) qa_nil)))))) (qa_cons (qo_ev q_int) qa_nil))))))
      (qss_one (qs_for PassesOwn.never rfl (qi_rng1 rfl m_range (qo_ev q_int)) (pg_name (i := 6) scLaw.nd rfl (Or.inl rfl)) tg_name (by decide) (qss_cons (qs_set (i := 7) scLaw.nd rfl (Or.inl rfl) (by decide) (q_call FTermText hr (by first | decide | omega) rfl (qa_cons (qo_ev (q_var (pv 5))) qa_nil)))
      (qss_cons (qs_if (qt_w (qw_or (qt_not (qt_tru (qo_ev (q_callB (call_isiK K) pr_isi rfl m_isinstance PyProof.Rows.Boot.«isinstance» (qa_cons (qo_rf (pv 7)) (qa_cons (qo_ev (q_ty (pe_bltn (v := .ty "str") rfl m_str PyProof.Rows.Boot.«str» rfl))) qa_nil)))) (fun _ => rfl))) (qw_or1 (qt_cmp (L3.op_neA hr) pr_eqN (qo_rf (pv 7)) (qo_ev (q_call FLSaid hr (by first | decide | omega) rfl (qa_cons (qo_ev (q_var (pv 5))) qa_nil))) (nomark _))))) (qss_one (qs_ret q_bl)) qss_nil)
      (qss_cons (qs_set (i := 7) scLaw.nd rfl (Or.inl rfl) (by decide) (q_call FShapeText hr (by first | decide | omega) rfl (qa_cons (qo_ev (q_var (pv 3))) qa_nil)))
      (qss_one (qs_if (qt_w (qw_or (qt_not (qt_tru (qo_ev (q_callB (call_isiK K) pr_isi rfl m_isinstance PyProof.Rows.Boot.«isinstance» (qa_cons (qo_rf (pv 7)) (qa_cons (qo_ev (q_ty (pe_bltn (v := .ty "str") rfl m_str PyProof.Rows.Boot.«str» rfl))) qa_nil)))) (fun _ => rfl))) (qw_or1 (qt_cmp (L3.op_neA hr) pr_eqN (qo_rf (pv 7)) (qo_ev (q_call FLShapeSaid hr (by first | decide | omega) rfl (qa_cons (qo_ev (q_var (pv 3))) qa_nil))) (nomark _))))) (qss_one (qs_ret q_bl)) qss_nil)))))))))
      (qss_one (qs_ret (q_and (q_cmp (L3.op_eqA hr) pr_eqN (qo_ev (q_call FShapeText hr (by first | decide | omega) rfl (qa_cons (qo_ev (q_tup (qa_cons (qo_ev (q_tup qa_nil)) (qa_cons (qo_ev (q_tup qa_nil)) qa_nil)))) qa_nil))) (qo_ev (q_str (l := [115, 104, 97, 112, 101, 32, 124]))) (nomark _)) (q_one (q_cmp (L3.op_eqA hr) pr_eqN (qo_ev (q_call FShapeText hr (by first | decide | omega) rfl (qa_cons (qo_ev (q_tup (qa_cons (qo_ev (q_tup (qa_cons (qo_ev (q_str (l := [65]))) qa_nil))) (qa_cons (qo_ev (q_tup qa_nil)) qa_nil)))) qa_nil))) (qo_ev (q_str (l := [115, 104, 97, 112, 101, 32, 65, 32, 124]))) (nomark _)))))))))), fun _ _ _ _ h => h⟩
end
end My
namespace My
open PySem L2 Q
theorem take_spec (a b n : Int) (h0 : 0 < n) (h1 : n < 1073741824) (S : List Ob) : ∃ r a' b' : Int, rLTake [fdD a b, .int n] S = some (.int r, [fdD a' b'], S) ∧ 0 ≤ r ∧ r < n := by
  unfold rLTake
  by_cases ha : 0 < a
  · simp [fnRun, evSq, evIf, tstB, evPrim, evOms, evC, evVar, evMov, evAsg, tgN, tgT, tgL, tgsCons, tgsNil, evSetIx, evRet, evRetN, evDrop, evSkip, evCont, evPar, evSeq, evFz, evTru, tru, evAnd, evOr, evNot, evAndV, evOrV, evNotV, evChain, evChain2, evMut, muAppend, muPop, muExtend, muClear, evMeth, rfTy, Dt.ofTy, evMethT, evCall, clr, rfs, bput, backs, evFor, evRng1, evRng2, evItems, items, evComp, M.set, M.blank, blankR, rst, pInt2, pCmp2, pAdd, pMul, pNeg, pIdx, cpo, pLen, pEqN, pInN, sq, pIsN, pNotN, pTuple, pList, pAll, pAny, pSum, pMaxL, pMax2, pMin2, pIntC, pStrI, pJoin, pUpper, pIndex, pIndexT, pIsi, kindT, isSub, pLeA, pRev, pRevS, evSl0, evSlL, evSlH, evSlB, slD, big_s, Q.small, evAug, Dt.isNon, and_assoc, ite_nle, ite_nlt, ite_ile, ite_ilt, ite_nle', ite_nlt', ite_ile', ite_ilt', bif_ile, atI, ixN, ha, h0, h1]
    exact ⟨Int.emod_nonneg _ (by omega), Int.emod_lt_of_pos _ h0⟩
  · simp [fnRun, evSq, evIf, tstB, evPrim, evOms, evC, evVar, evMov, evAsg, tgN, tgT, tgL, tgsCons, tgsNil, evSetIx, evRet, evRetN, evDrop, evSkip, evCont, evPar, evSeq, evFz, evTru, tru, evAnd, evOr, evNot, evAndV, evOrV, evNotV, evChain, evChain2, evMut, muAppend, muPop, muExtend, muClear, evMeth, rfTy, Dt.ofTy, evMethT, evCall, clr, rfs, bput, backs, evFor, evRng1, evRng2, evItems, items, evComp, M.set, M.blank, blankR, rst, pInt2, pCmp2, pAdd, pMul, pNeg, pIdx, cpo, pLen, pEqN, pInN, sq, pIsN, pNotN, pTuple, pList, pAll, pAny, pSum, pMaxL, pMax2, pMin2, pIntC, pStrI, pJoin, pUpper, pIndex, pIndexT, pIsi, kindT, isSub, pLeA, pRev, pRevS, evSl0, evSlL, evSlH, evSlB, slD, big_s, Q.small, evAug, Dt.isNon, and_assoc, ite_nle, ite_nlt, ite_ile, ite_ilt, ite_nle', ite_nlt', ite_ile', ite_ilt', bif_ile, atI, ixN, ha, h0, h1]
    exact ⟨Int.emod_nonneg _ (by omega), Int.emod_lt_of_pos _ h0⟩
theorem feed_spec (ns : List Int) (k : Int) (h0 : 0 ≤ k) (S : List Ob) : ∃ a b : Int, rLFeed [.scr ns, .int k] S = some (fdD a b, [], S) := by
  unfold rLFeed
  have fin : ∀ (c : Int), ∃ a b : Int, (if 1000000000000000000 ≤ c then some (fdD c b, ([] : List Dt), S) else some (fdD 0 b, [], S)) = some (fdD a b, [], S) := fun c => by
    by_cases h : 1000000000000000000 ≤ c
    · exact ⟨c, 0, by simp [h]⟩
    · exact ⟨0, 0, by simp [h]⟩
  by_cases hk : k < ns.length
  · have e := atI_int ns k h0 hk
    generalize ns[k.toNat] = c at e
    by_cases hc : 1000000000000000000 ≤ c
    · simp [fnRun, evSq, evIf, tstB, evPrim, evOms, evC, evVar, evMov, evAsg, tgN, tgT, tgL, tgsCons, tgsNil, evSetIx, evRet, evRetN, evDrop, evSkip, evCont, evPar, evSeq, evFz, evTru, tru, evAnd, evOr, evNot, evAndV, evOrV, evNotV, evChain, evChain2, evMut, muAppend, muPop, muExtend, muClear, evMeth, rfTy, Dt.ofTy, evMethT, evCall, clr, rfs, bput, backs, evFor, evRng1, evRng2, evItems, items, evComp, M.set, M.blank, blankR, rst, pInt2, pCmp2, pAdd, pMul, pNeg, pIdx, cpo, pLen, pEqN, pInN, sq, pIsN, pNotN, pTuple, pList, pAll, pAny, pSum, pMaxL, pMax2, pMin2, pIntC, pStrI, pJoin, pUpper, pIndex, pIndexT, pIsi, kindT, isSub, pLeA, pRev, pRevS, evSl0, evSlL, evSlH, evSlB, slD, big_s, Q.small, evAug, Dt.isNon, and_assoc, ite_nle, ite_nlt, ite_ile, ite_ilt, ite_nle', ite_nlt', ite_ile', ite_ilt', bif_ile, hk, e, hc]
    · simp [fnRun, evSq, evIf, tstB, evPrim, evOms, evC, evVar, evMov, evAsg, tgN, tgT, tgL, tgsCons, tgsNil, evSetIx, evRet, evRetN, evDrop, evSkip, evCont, evPar, evSeq, evFz, evTru, tru, evAnd, evOr, evNot, evAndV, evOrV, evNotV, evChain, evChain2, evMut, muAppend, muPop, muExtend, muClear, evMeth, rfTy, Dt.ofTy, evMethT, evCall, clr, rfs, bput, backs, evFor, evRng1, evRng2, evItems, items, evComp, M.set, M.blank, blankR, rst, pInt2, pCmp2, pAdd, pMul, pNeg, pIdx, cpo, pLen, pEqN, pInN, sq, pIsN, pNotN, pTuple, pList, pAll, pAny, pSum, pMaxL, pMax2, pMin2, pIntC, pStrI, pJoin, pUpper, pIndex, pIndexT, pIsi, kindT, isSub, pLeA, pRev, pRevS, evSl0, evSlL, evSlH, evSlB, slD, big_s, Q.small, evAug, Dt.isNon, and_assoc, ite_nle, ite_nlt, ite_ile, ite_ilt, ite_nle', ite_nlt', ite_ile', ite_ilt', bif_ile, hk, e, hc]
  · by_cases hz : 0 < ns.length
    · have hz' : (0 : Int) < ns.length := by omega
      have e := atI_int ns (k % ns.length) (Int.emod_nonneg _ (by omega)) (Int.emod_lt_of_pos _ hz')
      generalize ns[(k % (ns.length : Int)).toNat]'(by have := Int.emod_lt_of_pos k hz'; have := Int.emod_nonneg k (b := (ns.length : Int)) (by omega); omega) = c at e
      by_cases hc : 1000000000000000000 ≤ c % 2147483629 * 31 + 7907 * k
      · simp [fnRun, evSq, evIf, tstB, evPrim, evOms, evC, evVar, evMov, evAsg, tgN, tgT, tgL, tgsCons, tgsNil, evSetIx, evRet, evRetN, evDrop, evSkip, evCont, evPar, evSeq, evFz, evTru, tru, evAnd, evOr, evNot, evAndV, evOrV, evNotV, evChain, evChain2, evMut, muAppend, muPop, muExtend, muClear, evMeth, rfTy, Dt.ofTy, evMethT, evCall, clr, rfs, bput, backs, evFor, evRng1, evRng2, evItems, items, evComp, M.set, M.blank, blankR, rst, pInt2, pCmp2, pAdd, pMul, pNeg, pIdx, cpo, pLen, pEqN, pInN, sq, pIsN, pNotN, pTuple, pList, pAll, pAny, pSum, pMaxL, pMax2, pMin2, pIntC, pStrI, pJoin, pUpper, pIndex, pIndexT, pIsi, kindT, isSub, pLeA, pRev, pRevS, evSl0, evSlL, evSlH, evSlB, slD, big_s, Q.small, evAug, Dt.isNon, and_assoc, ite_nle, ite_nlt, ite_ile, ite_ilt, ite_nle', ite_nlt', ite_ile', ite_ilt', bif_ile, hk, hz, e, hc]
      · simp [fnRun, evSq, evIf, tstB, evPrim, evOms, evC, evVar, evMov, evAsg, tgN, tgT, tgL, tgsCons, tgsNil, evSetIx, evRet, evRetN, evDrop, evSkip, evCont, evPar, evSeq, evFz, evTru, tru, evAnd, evOr, evNot, evAndV, evOrV, evNotV, evChain, evChain2, evMut, muAppend, muPop, muExtend, muClear, evMeth, rfTy, Dt.ofTy, evMethT, evCall, clr, rfs, bput, backs, evFor, evRng1, evRng2, evItems, items, evComp, M.set, M.blank, blankR, rst, pInt2, pCmp2, pAdd, pMul, pNeg, pIdx, cpo, pLen, pEqN, pInN, sq, pIsN, pNotN, pTuple, pList, pAll, pAny, pSum, pMaxL, pMax2, pMin2, pIntC, pStrI, pJoin, pUpper, pIndex, pIndexT, pIsi, kindT, isSub, pLeA, pRev, pRevS, evSl0, evSlL, evSlH, evSlB, slD, big_s, Q.small, evAug, Dt.isNon, and_assoc, ite_nle, ite_nlt, ite_ile, ite_ilt, ite_nle', ite_nlt', ite_ile', ite_ilt', bif_ile, hk, hz, e, hc]
    · by_cases hc : 1000000000000000000 ≤ 7907 * k + 13579
      · simp [fnRun, evSq, evIf, tstB, evPrim, evOms, evC, evVar, evMov, evAsg, tgN, tgT, tgL, tgsCons, tgsNil, evSetIx, evRet, evRetN, evDrop, evSkip, evCont, evPar, evSeq, evFz, evTru, tru, evAnd, evOr, evNot, evAndV, evOrV, evNotV, evChain, evChain2, evMut, muAppend, muPop, muExtend, muClear, evMeth, rfTy, Dt.ofTy, evMethT, evCall, clr, rfs, bput, backs, evFor, evRng1, evRng2, evItems, items, evComp, M.set, M.blank, blankR, rst, pInt2, pCmp2, pAdd, pMul, pNeg, pIdx, cpo, pLen, pEqN, pInN, sq, pIsN, pNotN, pTuple, pList, pAll, pAny, pSum, pMaxL, pMax2, pMin2, pIntC, pStrI, pJoin, pUpper, pIndex, pIndexT, pIsi, kindT, isSub, pLeA, pRev, pRevS, evSl0, evSlL, evSlH, evSlB, slD, big_s, Q.small, evAug, Dt.isNon, and_assoc, ite_nle, ite_nlt, ite_ile, ite_ilt, ite_nle', ite_nlt', ite_ile', ite_ilt', bif_ile, hk, hz, hc]
      · simp [fnRun, evSq, evIf, tstB, evPrim, evOms, evC, evVar, evMov, evAsg, tgN, tgT, tgL, tgsCons, tgsNil, evSetIx, evRet, evRetN, evDrop, evSkip, evCont, evPar, evSeq, evFz, evTru, tru, evAnd, evOr, evNot, evAndV, evOrV, evNotV, evChain, evChain2, evMut, muAppend, muPop, muExtend, muClear, evMeth, rfTy, Dt.ofTy, evMethT, evCall, clr, rfs, bput, backs, evFor, evRng1, evRng2, evItems, items, evComp, M.set, M.blank, blankR, rst, pInt2, pCmp2, pAdd, pMul, pNeg, pIdx, cpo, pLen, pEqN, pInN, sq, pIsN, pNotN, pTuple, pList, pAll, pAny, pSum, pMaxL, pMax2, pMin2, pIntC, pStrI, pJoin, pUpper, pIndex, pIndexT, pIsi, kindT, isSub, pLeA, pRev, pRevS, evSl0, evSlL, evSlH, evSlB, slD, big_s, Q.small, evAug, Dt.isNon, and_assoc, ite_nle, ite_nlt, ite_ile, ite_ilt, ite_nle', ite_nlt', ite_ile', ite_ilt', bif_ile, hk, hz, hc]
end My
namespace My
open PySem L2 Q
theorem letters_atI {i : Int} (h0 : 0 ≤ i) (h1 : i < 26) : atI [97, 98, 99, 100, 101, 102, 103, 104, 105, 106, 107, 108, 109, 110, 111, 112, 113, 114, 115, 116, 117, 118, 119, 120, 121, 122] i = some (97 + i.toNat) := by
  have : i = 0 ∨ i = 1 ∨ i = 2 ∨ i = 3 ∨ i = 4 ∨ i = 5 ∨ i = 6 ∨ i = 7 ∨ i = 8 ∨ i = 9 ∨ i = 10 ∨ i = 11 ∨ i = 12 ∨ i = 13 ∨ i = 14 ∨ i = 15 ∨ i = 16 ∨ i = 17 ∨ i = 18 ∨ i = 19 ∨ i = 20 ∨ i = 21 ∨ i = 22 ∨ i = 23 ∨ i = 24 ∨ i = 25 := by omega
  rcases this with rfl | rfl | rfl | rfl | rfl | rfl | rfl | rfl | rfl | rfl | rfl | rfl | rfl | rfl | rfl | rfl | rfl | rfl | rfl | rfl | rfl | rfl | rfl | rfl | rfl | rfl <;> rfl
abbrev abc : List Nat := [97, 98, 99, 100, 101, 102, 103, 104, 105, 106, 107, 108, 109, 110, 111, 112, 113, 114, 115, 116, 117, 118, 119, 120, 121, 122]
theorem small_letter {r : Int} (h0 : 0 ≤ r) (h1 : r < 26) : L2.small (97 + r.toNat) := ⟨by omega, by omega⟩
theorem strsD_one (st : List Nat) : strsD (st.map fun c => Dt.str [c]) = some (st.map fun c => [c]) := by
  have := strsD_map (st.map fun c => [c])
  rwa [List.map_map] at this
theorem jn_one (st : List Nat) : jn [] (st.map fun c => [c]) = st := by
  cases st with
  | nil => rfl
  | cons c st =>
    simp only [List.map_cons, jn, List.nil_append]
    have e : ∀ st : List Nat, List.flatMap (fun y => y) (st.map fun c => [c]) = st := fun st => by
      induction st with
      | nil => rfl
      | cons d st ih => rw [List.map_cons, List.flatMap_cons, ih]; rfl
    rw [e]; rfl
theorem lens_one (st : List Nat) : (List.map (List.length ∘ fun c => [c]) st).sum = st.length := by
  induction st with
  | nil => rfl
  | cons c st ih => rw [List.map_cons, List.sum_cons, ih, List.length_cons]; show [c].length + _ = _; rw [List.length_singleton]; omega
theorem memT_str (w : List Nat) (ls : List (List Nat)) : memT (.str w) (ls.map .str) = decide (w ∈ ls) := by
  unfold memT
  rw [List.any_map]
  induction ls with
  | nil => simp
  | cons l ls ih =>
    simp only [List.any_cons, Function.comp, eqT_str]
    rw [show (ls.any ((fun d => eqT d (.str w)) ∘ Dt.str)) = decide (w ∈ ls) from ih]
    simp only [List.mem_cons, Bool.decide_or]
    congr 1
    rw [Bool.eq_iff_iff]
    simp only [beq_iff_eq, decide_eq_true_eq]
    exact ⟨Eq.symm, Eq.symm⟩
theorem name_good {stem : List Nat} {first at_ turn : Int} {k : Nat} (hs : stem.length ≤ 3) (hsm : ∀ c ∈ stem, L2.small c) (h0 : 0 ≤ at_) (h1 : at_ ≤ stem.length) (ht : 0 ≤ (turn + k) % 4 ∧ (turn + k) % 4 < 4) :
    let w := cutN stem none (some at_) ++ [97 + ((first + 7 * (k : Int)) % 26).toNat] ++ cutN stem (some at_) (some ((turn + k) % 4))
    (w[at_.toNat]? = some (97 + ((first + 7 * (k : Int)) % 26).toNat)) ∧ (∀ c ∈ w, L2.small c) ∧ 1 ≤ w.length ∧ w.length ≤ 4 := by
  intro w
  have e1 : cutN stem none (some at_) = stem.take at_.toNat := cut_to stem at_ h0 h1
  have l1 : (cutN stem none (some at_)).length = at_.toNat := by rw [e1, List.length_take]; omega
  have l2 : (cutN stem (some at_) (some ((turn + k) % 4))).length + at_.toNat ≤ 3 := by
    unfold cutN
    rw [List.length_take, List.length_drop]
    have s1 : HT.sIx stem.length 0 (some at_) = at_.toNat := by
      show (if at_ < 0 then _ else min at_.toNat stem.length) = _
      rw [if_neg (by omega)]; omega
    rw [s1]; omega
  refine ⟨?_, fun c hc => ?_, ?_, ?_⟩
  · show (cutN stem none (some at_) ++ [_] ++ _)[at_.toNat]? = _
    rw [List.getElem?_append_left (by rw [List.length_append, l1]; simp), List.getElem?_append_right (by omega), l1]
    simp
  · rcases List.mem_append.mp hc with hc | hc
    · rcases List.mem_append.mp hc with hc | hc
      · exact hsm c (cut_sub _ _ _ c hc)
      · have : c = 97 + ((first + 7 * (k : Int)) % 26).toNat := by simpa using hc
        rw [this]
        exact small_letter (Int.emod_nonneg _ (by decide)) (Int.emod_lt_of_pos _ (by decide))
    · exact hsm c (cut_sub _ _ _ c hc)
  · show 1 ≤ (_ ++ _ ++ _ : List Nat).length
    simp only [List.length_append, List.length_singleton]; omega
  · show (_ ++ _ ++ _ : List Nat).length ≤ 4
    simp only [List.length_append, List.length_singleton]; omega
theorem good_pick {a f : Int} {j : Nat} {w : List Nat} (h1 : w[a.toNat]? = some (97 + ((f + 7 * (j : Int)) % 26).toNat)) (h2 : ∀ c ∈ w, L2.small c) (h3 : 1 ≤ w.length) (h4 : w.length ≤ 4) : Good a f j (if w ∈ six then w ++ [113] else w) := by
  by_cases h : w ∈ six
  · rw [if_pos h]
    refine ⟨?_, ?_, ?_, ?_, not_six_q w⟩
    · rw [List.getElem?_append_left (List.getElem?_eq_some_iff.mp h1).1]; exact h1
    · intro c hc
      rcases List.mem_append.mp hc with z | z
      · exact h2 c z
      · have : c = 113 := by simpa using z
        subst this; exact ⟨by decide, by decide⟩
    · rw [List.length_append, List.length_singleton]; omega
    · rw [List.length_append, List.length_singleton]; omega
  · rw [if_neg h]; exact ⟨h1, h2, h3, by omega, h⟩
theorem six_mem (w : List Nat) : memT (.str w) [.str [100, 101, 102], .str [108, 101, 116], .str [116, 101, 108, 108], .str [108, 111, 111, 112], .str [112, 105, 99, 107], .str [99, 97, 108, 108]] = decide (w ∈ six) := memT_str w six
def INames (a b n : Int) (st : List Nat) (r3 r4 r5 : Int) (S : List Ob) (i : Nat) (m : M) : Prop := ∃ (ws : List (List Nat)) (x8 x9 x10 : Option Dt), m = ⟨[some (fdD a b), some (.int n), some (.str abc), some (.str st), some (.int r3), some (.int r4), some (.int r5), some (.lst true (ws.map .str)), x8, x9, x10], S⟩ ∧ ws.length = i ∧ ∀ j w, ws[j]? = some w → Good r4 r3 j w
theorem names_turn {a b n : Int} {st : List Nat} {r3 r4 r5 : Int} {S : List Ob} (hsl : st.length ≤ 3) (hsm : ∀ c ∈ st, L2.small c) (h4a : 0 ≤ r4) (h4b : r4 < st.length + 1) (i : Nat) (hi : i ≤ 26) (m : M) (h : INames a b n st r3 r4 r5 S i m) :
    ∃ fl m2, (tgN 8 (.int (i : Nat)) m).bind bLNames1 = some (fl, m2) ∧ (fl = .nx ∨ fl = .ct) ∧ INames a b n st r3 r4 r5 S (i + 1) m2 := by
  obtain ⟨ws, x8, x9, x10, rfl, hwl, hg⟩ := h
  have at26 := letters_atI (Int.emod_nonneg (r3 + 7 * (i : Int)) (by decide : (26 : Int) ≠ 0)) (Int.emod_lt_of_pos (r3 + 7 * (i : Int)) (by decide : (0 : Int) < 26))
  have ht : 0 ≤ (r5 + (i : Int)) % 4 ∧ (r5 + (i : Int)) % 4 < 4 := ⟨Int.emod_nonneg _ (by decide), Int.emod_lt_of_pos _ (by decide)⟩
  obtain ⟨g1, g2, g3, g4⟩ := name_good (first := r3) (turn := r5) (k := i) hsl hsm h4a (by omega) ht
  have gp := good_pick g1 g2 g3 g4
  have k4 : ws.length ≤ 1000000 := by omega
  have k1' := cut_len st none (some r4)
  have k2' := cut_len st (some r4) (some ((r5 + (i : Int)) % 4))
  have k0 : st.length ≤ 1000000 := by omega
  have k1 : (cutN st none (some r4)).length + 1 ≤ 1000000 := by omega
  have k2 : (cutN st none (some r4)).length + 1 + (cutN st (some r4) (some ((r5 + (i : Int)) % 4))).length ≤ 1000000 := by omega
  have k3 : (cutN st none (some r4)).length + ((cutN st (some r4) (some ((r5 + (i : Int)) % 4))).length + 1) + 1 ≤ 1000000 := by omega
  unfold bLNames1
  have fin : ∀ w, Good r4 r3 i w → INames a b n st r3 r4 r5 S (i + 1) ⟨[some (fdD a b), some (.int n), some (.str abc), some (.str st), some (.int r3), some (.int r4), some (.int r5), some (.lst true (ws.map .str ++ [.str w])), some (.int i), some (.str [97 + ((r3 + 7 * (i : Int)) % 26).toNat]), some (.str w)], S⟩ := fun w hw => by
    refine ⟨ws ++ [w], _, _, _, by rw [List.map_append]; rfl, by simp [hwl], fun j v e => ?_⟩
    rcases Nat.lt_trichotomy j ws.length with z | z | z
    · rw [List.getElem?_append_left z] at e; exact hg j v e
    · subst z; rw [List.getElem?_append_right (Nat.le_refl _)] at e
      simp at e; subst e; rw [hwl]; exact hw
    · rw [List.getElem?_eq_none (by simp; omega)] at e; cases e
  by_cases hm : cutN st none (some r4) ++ [97 + ((r3 + 7 * (i : Int)) % 26).toNat] ++ cutN st (some r4) (some ((r5 + (i : Int)) % 4)) ∈ six
  · rw [if_pos hm] at gp
    have q := fin _ gp
    simp [six_mem] at hm q
    simp [fnRun, evSq, evIf, tstB, evPrim, evOms, evC, evVar, evMov, evAsg, tgN, tgT, tgL, tgsCons, tgsNil, evSetIx, evRet, evRetN, evDrop, evSkip, evCont, evPar, evSeq, evFz, evTru, tru, evAnd, evOr, evNot, evAndV, evOrV, evNotV, evChain, evChain2, evMut, muAppend, muPop, muExtend, muClear, evMeth, rfTy, Dt.ofTy, evMethT, evCall, clr, rfs, bput, backs, evFor, evRng1, evRng2, evItems, items, evComp, M.set, M.blank, blankR, rst, pInt2, pCmp2, pAdd, pMul, pNeg, pIdx, cpo, pLen, pEqN, pInN, sq, pIsN, pNotN, pTuple, pList, pAll, pAny, pSum, pMaxL, pMax2, pMin2, pIntC, pStrI, pJoin, pUpper, pIndex, pIndexT, pIsi, kindT, isSub, pLeA, pRev, pRevS, evSl0, evSlL, evSlH, evSlB, slD, big_s, Q.small, evAug, Dt.isNon, and_assoc, ite_nle, ite_nlt, ite_ile, ite_ilt, ite_nle', ite_nlt', ite_ile', ite_ilt', bif_ile, at26, six_mem, k0, k1, k2, k3, k4, hm]
    simpa using q
  · rw [if_neg hm] at gp
    have q := fin _ gp
    simp [six_mem] at hm q
    simp [fnRun, evSq, evIf, tstB, evPrim, evOms, evC, evVar, evMov, evAsg, tgN, tgT, tgL, tgsCons, tgsNil, evSetIx, evRet, evRetN, evDrop, evSkip, evCont, evPar, evSeq, evFz, evTru, tru, evAnd, evOr, evNot, evAndV, evOrV, evNotV, evChain, evChain2, evMut, muAppend, muPop, muExtend, muClear, evMeth, rfTy, Dt.ofTy, evMethT, evCall, clr, rfs, bput, backs, evFor, evRng1, evRng2, evItems, items, evComp, M.set, M.blank, blankR, rst, pInt2, pCmp2, pAdd, pMul, pNeg, pIdx, cpo, pLen, pEqN, pInN, sq, pIsN, pNotN, pTuple, pList, pAll, pAny, pSum, pMaxL, pMax2, pMin2, pIntC, pStrI, pJoin, pUpper, pIndex, pIndexT, pIsi, kindT, isSub, pLeA, pRev, pRevS, evSl0, evSlL, evSlH, evSlB, slD, big_s, Q.small, evAug, Dt.isNon, and_assoc, ite_nle, ite_nlt, ite_ile, ite_ilt, ite_nle', ite_nlt', ite_ile', ite_ilt', bif_ile, at26, six_mem, k0, k1, k2, k3, k4, hm]
    simpa using q
theorem names_spec (a b n : Int) (h0 : 0 ≤ n) (hn : n ≤ 26) (S : List Ob) : ∃ (ws : List (List Nat)) (a' b' : Int), rLNames [fdD a b, .int n] S = some (.lst true (ws.map .str), [fdD a' b'], S) ∧ (ws.length : Int) = n ∧ Names ws := by
  obtain ⟨r1, a1, b1, e1, h1a, h1b⟩ := take_spec a b 4 (by decide) (by decide) S
  obtain ⟨st, m', ec, ⟨a2, b2, x, rfl⟩, xl, xr⟩ := compR0 (js := [8]) (tg := tgN 8) (f := cLNames1) (fun c => Dt.str [c]) r1.toNat
    (fun _ m => ∃ (a b : Int) (x : Option Dt), m = ⟨[some (fdD a b), some (.int n), some (.str abc), none, none, none, none, none, x, none, none], S⟩) (fun _ c => L2.small c)
    ⟨[some (fdD a1 b1), some (.int n), some (.str abc), none, none, none, none, none, none, none, none], S⟩ ⟨a1, b1, none, rfl⟩ (by
      rintro i m hi ⟨a, b, x, rfl⟩
      obtain ⟨r, a', b', e, h1, h2⟩ := take_spec a b 26 (by decide) (by decide) S
      simp [cLNames1, fnRun, evSq, evIf, tstB, evPrim, evOms, evC, evVar, evMov, evAsg, tgN, tgT, tgL, tgsCons, tgsNil, evSetIx, evRet, evRetN, evDrop, evSkip, evCont, evPar, evSeq, evFz, evTru, tru, evAnd, evOr, evNot, evAndV, evOrV, evNotV, evChain, evChain2, evMut, muAppend, muPop, muExtend, muClear, evMeth, rfTy, Dt.ofTy, evMethT, evCall, clr, rfs, bput, backs, evFor, evRng1, evRng2, evItems, items, evComp, M.set, M.blank, blankR, rst, pInt2, pCmp2, pAdd, pMul, pNeg, pIdx, cpo, pLen, pEqN, pInN, sq, pIsN, pNotN, pTuple, pList, pAll, pAny, pSum, pMaxL, pMax2, pMin2, pIntC, pStrI, pJoin, pUpper, pIndex, pIndexT, pIsi, kindT, isSub, pLeA, pRev, pRevS, evSl0, evSlL, evSlH, evSlB, slD, big_s, Q.small, evAug, Dt.isNon, and_assoc, ite_nle, ite_nlt, ite_ile, ite_ilt, ite_nle', ite_nlt', ite_ile', ite_ilt', bif_ile, e, letters_atI h1 h2]
      exact small_letter h1 h2)
  have hsl : st.length ≤ 3 := by omega
  have hsm : ∀ c ∈ st, L2.small c := fun c hc => let ⟨i, hi, e⟩ := List.getElem_of_mem hc; xr i c (by rw [List.getElem?_eq_getElem hi, e])
  obtain ⟨r3, a3, b3, e3, h3a, h3b⟩ := take_spec a2 b2 26 (by decide) (by decide) S
  obtain ⟨r4, a4, b4, e4, h4a, h4b⟩ := take_spec a3 b3 (st.length + 1) (by omega) (by omega) S
  obtain ⟨r5, a5, b5, e5, h5a, h5b⟩ := take_spec a4 b4 4 (by decide) (by decide) S
  obtain ⟨m2, ef, ws, x8, x9, x10, rfl, hwl, hg⟩ := forR0 (tg := tgN 8) (b := bLNames1) n.toNat (INames a5 b5 n st r3 r4 r5 S)
    ⟨[some (fdD a5 b5), some (.int n), some (.str abc), some (.str st), some (.int r3), some (.int r4), some (.int r5), some (.lst true []), none, none, none], S⟩ ⟨[], none, none, none, rfl, rfl, fun j w h => by simp at h⟩
    (fun i m hi h => names_turn hsl hsm h4a h4b i (by omega) m h)
  obtain ⟨r6, a6, b6, e6, h6a, h6b⟩ := take_spec a5 b5 4 (by decide) (by decide) S
  unfold rLNames
  have g1 : -1000000000 ≤ r1 ∧ r1 ≤ 1000000000 := by omega
  have g2 : -1000000000 ≤ n ∧ n ≤ 1000000000 := by omega
  have g3 : n.toNat ≤ 1000000 := by omega
  have g4 : r1.toNat ≤ 1000000 := by omega
  have g5 : st.length ≤ 1000000 := by omega
  by_cases hn2 : 1 < n
  · have wl : ws.length = (n.toNat - 2) + 2 := by omega
    have ww := List.getElem?_eq_getElem (l := ws) (i := n.toNat - 2) (by omega)
    generalize ws[n.toNat - 2]'(by omega) = w at ww
    have z2 : atI (List.map Dt.str ws) (-2) = some (.str w) := by
      unfold atI
      rw [List.length_map, wl, show ixN (n.toNat - 2 + 2) (-2) = some (n.toNat - 2) from ixN_back rfl (by decide)]
      simp [ww]
    have gw := hg _ w ww
    have g6 : w.length ≤ 1000000 := by have := gw.len; omega
    have z1 : ixN ws.length (-1) = some (n.toNat - 1) := ixN_back (k := 1) (by omega) (by decide)
    have g7 : w.length + 1 ≤ 1000000 := by have := gw.len; omega
    by_cases h4 : (w.length : Int) < 4
    · by_cases h6 : r6 = 0
      · subst h6
        simp [fnRun, evSq, evIf, tstB, evPrim, evOms, evC, evVar, evMov, evAsg, tgN, tgT, tgL, tgsCons, tgsNil, evSetIx, evRet, evRetN, evDrop, evSkip, evCont, evPar, evSeq, evFz, evTru, tru, evAnd, evOr, evNot, evAndV, evOrV, evNotV, evChain, evChain2, evMut, muAppend, muPop, muExtend, muClear, evMeth, rfTy, Dt.ofTy, evMethT, evCall, clr, rfs, bput, backs, evFor, evRng1, evRng2, evItems, items, evComp, M.set, M.blank, blankR, rst, pInt2, pCmp2, pAdd, pMul, pNeg, pIdx, cpo, pLen, pEqN, pInN, sq, pIsN, pNotN, pTuple, pList, pAll, pAny, pSum, pMaxL, pMax2, pMin2, pIntC, pStrI, pJoin, pUpper, pIndex, pIndexT, pIsi, kindT, isSub, pLeA, pRev, pRevS, evSl0, evSlL, evSlH, evSlB, slD, big_s, Q.small, evAug, Dt.isNon, and_assoc, ite_nle, ite_nlt, ite_ile, ite_ilt, ite_nle', ite_nlt', ite_ile', ite_ilt', bif_ile, e1, ec, strsD_one, jn_one, e3, e4, e5, g1, g2, g3, g4, g5, g6, ef, e6, lens_one, g7, hn2, z2, z1, h4]
        refine ⟨ws.set (n.toNat - 1) (w ++ [113]), by rw [List.map_set], by rw [List.length_set]; omega, ?_⟩
        have := names_last (n := n.toNat - 2) (by omega) (by omega) hg ww (by omega)
        rwa [show n.toNat - 2 + 1 = n.toNat - 1 by omega] at this
      · simp [fnRun, evSq, evIf, tstB, evPrim, evOms, evC, evVar, evMov, evAsg, tgN, tgT, tgL, tgsCons, tgsNil, evSetIx, evRet, evRetN, evDrop, evSkip, evCont, evPar, evSeq, evFz, evTru, tru, evAnd, evOr, evNot, evAndV, evOrV, evNotV, evChain, evChain2, evMut, muAppend, muPop, muExtend, muClear, evMeth, rfTy, Dt.ofTy, evMethT, evCall, clr, rfs, bput, backs, evFor, evRng1, evRng2, evItems, items, evComp, M.set, M.blank, blankR, rst, pInt2, pCmp2, pAdd, pMul, pNeg, pIdx, cpo, pLen, pEqN, pInN, sq, pIsN, pNotN, pTuple, pList, pAll, pAny, pSum, pMaxL, pMax2, pMin2, pIntC, pStrI, pJoin, pUpper, pIndex, pIndexT, pIsi, kindT, isSub, pLeA, pRev, pRevS, evSl0, evSlL, evSlH, evSlB, slD, big_s, Q.small, evAug, Dt.isNon, and_assoc, ite_nle, ite_nlt, ite_ile, ite_ilt, ite_nle', ite_nlt', ite_ile', ite_ilt', bif_ile, e1, ec, strsD_one, jn_one, e3, e4, e5, g1, g2, g3, g4, g5, g6, ef, e6, lens_one, hn2, z2, h4, h6]
        exact ⟨ws, rfl, by omega, names_of (by omega) hg⟩
    · simp [fnRun, evSq, evIf, tstB, evPrim, evOms, evC, evVar, evMov, evAsg, tgN, tgT, tgL, tgsCons, tgsNil, evSetIx, evRet, evRetN, evDrop, evSkip, evCont, evPar, evSeq, evFz, evTru, tru, evAnd, evOr, evNot, evAndV, evOrV, evNotV, evChain, evChain2, evMut, muAppend, muPop, muExtend, muClear, evMeth, rfTy, Dt.ofTy, evMethT, evCall, clr, rfs, bput, backs, evFor, evRng1, evRng2, evItems, items, evComp, M.set, M.blank, blankR, rst, pInt2, pCmp2, pAdd, pMul, pNeg, pIdx, cpo, pLen, pEqN, pInN, sq, pIsN, pNotN, pTuple, pList, pAll, pAny, pSum, pMaxL, pMax2, pMin2, pIntC, pStrI, pJoin, pUpper, pIndex, pIndexT, pIsi, kindT, isSub, pLeA, pRev, pRevS, evSl0, evSlL, evSlH, evSlB, slD, big_s, Q.small, evAug, Dt.isNon, and_assoc, ite_nle, ite_nlt, ite_ile, ite_ilt, ite_nle', ite_nlt', ite_ile', ite_ilt', bif_ile, e1, ec, strsD_one, jn_one, e3, e4, e5, g1, g2, g3, g4, g5, g6, ef, e6, lens_one, hn2, z2, h4]
      exact ⟨ws, rfl, by omega, names_of (by omega) hg⟩
  · simp [fnRun, evSq, evIf, tstB, evPrim, evOms, evC, evVar, evMov, evAsg, tgN, tgT, tgL, tgsCons, tgsNil, evSetIx, evRet, evRetN, evDrop, evSkip, evCont, evPar, evSeq, evFz, evTru, tru, evAnd, evOr, evNot, evAndV, evOrV, evNotV, evChain, evChain2, evMut, muAppend, muPop, muExtend, muClear, evMeth, rfTy, Dt.ofTy, evMethT, evCall, clr, rfs, bput, backs, evFor, evRng1, evRng2, evItems, items, evComp, M.set, M.blank, blankR, rst, pInt2, pCmp2, pAdd, pMul, pNeg, pIdx, cpo, pLen, pEqN, pInN, sq, pIsN, pNotN, pTuple, pList, pAll, pAny, pSum, pMaxL, pMax2, pMin2, pIntC, pStrI, pJoin, pUpper, pIndex, pIndexT, pIsi, kindT, isSub, pLeA, pRev, pRevS, evSl0, evSlL, evSlH, evSlB, slD, big_s, Q.small, evAug, Dt.isNon, and_assoc, ite_nle, ite_nlt, ite_ile, ite_ilt, ite_nle', ite_nlt', ite_ile', ite_ilt', bif_ile, e1, ec, strsD_one, jn_one, e3, e4, e5, g1, g2, g3, g4, g5, ef, e6, lens_one, hn2]
    exact ⟨ws, rfl, by omega, names_of (by omega) hg⟩
end My
namespace My
open PySem L2 Q
def capw (w : List Nat) : List Nat := (cutN w none (some 1)).map PyProof.Rows.up1 ++ cutN w (some 1) none
theorem cut_one (w : List Nat) (h : 1 ≤ w.length) : cutN w none (some 1) = w.take 1 := by
  have := cut_to w 1 (by decide) (by omega)
  exact this
theorem cut_rest (w : List Nat) (h : 1 ≤ w.length) : cutN w (some 1) none = w.drop 1 := by
  unfold cutN
  have e1 : HT.sIx w.length 0 (some 1) = 1 := by
    show (if (1 : Int) < 0 then ((1 : Int) + (w.length : Int)).toNat else min (1 : Int).toNat w.length) = 1
    rw [if_neg (by decide)]
    show min 1 w.length = 1
    omega
  have e2 : HT.sIx w.length w.length none = w.length := rfl
  rw [e1, e2]
  exact List.take_of_length_le (by rw [List.length_drop]; exact Nat.le_refl _)
theorem capw_inj {a b : List Nat} (ha : 1 ≤ a.length) (hb : 1 ≤ b.length) (sa : ∀ c ∈ a, L2.small c) (sb : ∀ c ∈ b, L2.small c) (h : capw a = capw b) : a = b := by
  unfold capw at h
  rw [cut_one a ha, cut_one b hb, cut_rest a ha, cut_rest b hb] at h
  match a, ha with
  | x :: a, _ =>
    match b, hb with
    | y :: b, _ =>
      simp only [List.take_succ_cons, List.take_zero, List.map_cons, List.map_nil, List.drop_succ_cons, List.drop_zero, List.singleton_append, List.cons.injEq] at h
      obtain ⟨h1, h2⟩ := h
      have sx := sa x List.mem_cons_self
      have sy := sb y List.mem_cons_self
      unfold PyProof.Rows.up1 at h1
      unfold L2.small at sx sy
      rw [if_pos sx, if_pos sy] at h1
      have : x = y := by omega
      rw [this, h2]
theorem cap_nodup {ws : List (List Nat)} (N : Names ws) : (ws.map capw).Nodup := by
  have go : ∀ l : List (List Nat), (∀ w ∈ l, w ∈ ws) → l.Nodup → (l.map capw).Nodup := by
    intro l
    induction l with
    | nil => intro _ _; exact List.nodup_nil
    | cons w r ih =>
      intro hs hn
      rw [List.nodup_cons] at hn
      rw [List.map_cons, List.nodup_cons]
      refine ⟨fun hm => ?_, ih (fun v hv => hs v (List.mem_cons_of_mem _ hv)) hn.2⟩
      obtain ⟨v, hv, e⟩ := List.mem_map.mp hm
      have hw := hs w List.mem_cons_self
      have hv' := hs v (List.mem_cons_of_mem _ hv)
      have : v = w := capw_inj (N.pos v hv') (N.pos w hw) (N.small v hv') (N.small w hw) e
      subst this
      exact hn.1 hv
  exact go ws (fun _ h => h) N.nd
theorem names_sub {ws vs : List (List Nat)} (N : Names ws) (h : vs.Sublist ws) : Names vs :=
  ⟨fun w hw => N.small w (h.subset hw), fun w hw => N.pos w (h.subset hw), fun w hw => N.len w (h.subset hw), fun w hw => N.six w (h.subset hw), N.nd.sublist h⟩
structure Row where
  d : Dt
  z : List Nat
  n : Nat
def rsN (rs : List Row) : Nat := (rs.map fun r => r.n + 2).sum
def sepZ (rs : List Row) : List Nat := rs.flatMap fun r => 32 :: r.z
abbrev kName : List Nat := [110, 97, 109, 101]
abbrev kFixed : List Nat := [102, 105, 120, 101, 100]
abbrev kNum : List Nat := [110, 117, 109]
abbrev kCount : List Nat := [99, 111, 117, 110, 116]
abbrev kOp : List Nat := [111, 112]
abbrev kDo : List Nat := [100, 111]
abbrev kLet : List Nat := [108, 101, 116]
abbrev kLoop : List Nat := [108, 111, 111, 112]
abbrev kPick : List Nat := [112, 105, 99, 107]
abbrev kCall : List Nat := [99, 97, 108, 108]
def TmH : Nat → Row → Prop
  | 0, _ => False
  | h + 1, r =>
    (∃ w, w.length ≤ 8 ∧ r = ⟨.tup [.str kName, .str w], w, 20⟩) ∨
    (∃ w, w.length ≤ 8 ∧ r = ⟨.tup [.str kFixed, .str w], w, 20⟩) ∨
    (∃ k : Int, k.natAbs < 2 ^ 64 ∧ (figs k).length ≤ 8 ∧ r = ⟨.tup [.str kNum, .int k], figs k, 20⟩) ∨
    (∃ w, w.length ≤ 8 ∧ r = ⟨.tup [.str kCount, .str w], 35 :: w, 20⟩) ∨
    (∃ s a b, s.length ≤ 8 ∧ TmH h a ∧ TmH h b ∧ r = ⟨.tup [.str kOp, .str s, a.d, b.d], 91 :: a.z ++ 32 :: s ++ 32 :: b.z ++ [93], a.n + b.n + 40⟩) ∨
    (∃ w rs, w.length ≤ 8 ∧ (∀ x ∈ rs, TmH h x) ∧ rs.length ≤ 4 ∧ r = ⟨.tup [.str kDo, .str w, .tup (rs.map Row.d)], 40 :: w ++ sepZ rs ++ [41], rsN rs + 40⟩) ∨
    (∃ w a b, w.length ≤ 8 ∧ TmH h a ∧ TmH h b ∧ r = ⟨.tup [.str kLet, .str w, a.d, b.d], [40, 108, 101, 116, 32] ++ w ++ 32 :: a.z ++ 32 :: b.z ++ [41], a.n + b.n + 40⟩) ∨
    (∃ w x c a b, w.length ≤ 8 ∧ x.length ≤ 8 ∧ TmH h c ∧ TmH h a ∧ TmH h b ∧ r = ⟨.tup [.str kLoop, .str w, c.d, .str x, a.d, b.d], [40, 108, 111, 111, 112, 32, 35] ++ w ++ 32 :: c.z ++ 32 :: x ++ 32 :: a.z ++ 32 :: b.z ++ [41], c.n + a.n + b.n + 60⟩) ∨
    (∃ c rs, TmH h c ∧ (∀ x ∈ rs, TmH h x) ∧ rs.length ≤ 4 ∧ r = ⟨.tup [.str kPick, c.d, .tup (rs.map Row.d)], [40, 112, 105, 99, 107, 32] ++ c.z ++ sepZ rs ++ [41], c.n + rsN rs + 40⟩) ∨
    (∃ w rs, w.length ≤ 8 ∧ (∀ x ∈ rs, TmH h x) ∧ rs.length ≤ 4 ∧ r = ⟨.tup [.str kCall, .str w, .tup (rs.map Row.d)], [40, 99, 97, 108, 108, 32] ++ w ++ sepZ rs ++ [41], rsN rs + 40⟩)
theorem sepZ_len {rs : List Row} (h : ∀ x ∈ rs, x.z.length ≤ x.n) : (sepZ rs).length ≤ rsN rs := by
  induction rs with
  | nil => simp [sepZ]
  | cons r rs ih =>
    have h1 := h r List.mem_cons_self
    have h2 := ih fun x hx => h x (List.mem_cons_of_mem _ hx)
    unfold sepZ rsN at *
    simp only [List.flatMap_cons, List.length_append, List.map_cons, List.sum_cons, List.length_cons]
    omega
theorem TmH.both : ∀ (h : Nat) (r : Row), TmH h r → r.d.cp = true ∧ r.z.length ≤ r.n
  | 0, r, e => e.elim
  | h + 1, r, e => by
    have rows : ∀ rs : List Row, (∀ x ∈ rs, TmH h x) → cps (rs.map Row.d) = true ∧ (sepZ rs).length ≤ rsN rs := fun rs k =>
      ⟨cps_of fun d hd => by obtain ⟨x, hx, rfl⟩ := List.mem_map.mp hd; exact (TmH.both h x (k x hx)).1, sepZ_len fun x hx => (TmH.both h x (k x hx)).2⟩
    unfold TmH at e
    rcases e with ⟨w, hw, rfl⟩ | ⟨w, hw, rfl⟩ | ⟨k, _, hw, rfl⟩ | ⟨w, hw, rfl⟩ | ⟨s, a, b, hs, ha, hb, rfl⟩ | ⟨w, rs, hw, hr, _, rfl⟩ | ⟨w, a, b, hw, ha, hb, rfl⟩ | ⟨w, x, c, a, b, hw, hx, hc, ha, hb, rfl⟩ | ⟨c, rs, hc, hr, _, rfl⟩ | ⟨w, rs, hw, hr, _, rfl⟩
    · exact ⟨by simp, by simp; omega⟩
    · exact ⟨by simp, by simp; omega⟩
    · exact ⟨by simp, by simp; omega⟩
    · exact ⟨by simp, by simp; omega⟩
    · obtain ⟨a1, a2⟩ := TmH.both h a ha
      obtain ⟨b1, b2⟩ := TmH.both h b hb
      exact ⟨by simp [a1, b1], by simp; omega⟩
    · obtain ⟨c1, c2⟩ := rows rs hr
      exact ⟨by simp [c1], by simp; omega⟩
    · obtain ⟨a1, a2⟩ := TmH.both h a ha
      obtain ⟨b1, b2⟩ := TmH.both h b hb
      exact ⟨by simp [a1, b1], by simp; omega⟩
    · obtain ⟨a1, a2⟩ := TmH.both h a ha
      obtain ⟨b1, b2⟩ := TmH.both h b hb
      obtain ⟨c1, c2⟩ := TmH.both h c hc
      exact ⟨by simp [a1, b1, c1], by simp; omega⟩
    · obtain ⟨a1, a2⟩ := TmH.both h c hc
      obtain ⟨c1, c2⟩ := rows rs hr
      exact ⟨by simp [c1, a1], by simp; omega⟩
    · obtain ⟨c1, c2⟩ := rows rs hr
      exact ⟨by simp [c1], by simp; omega⟩
end My
namespace My
open PySem L2 Q
@[simp] theorem atI_4 {α : Type} (a b c d e : α) (l : List α) : atI (a :: b :: c :: d :: e :: l) 4 = some e := by
  have := atI_nat' (a :: b :: c :: d :: e :: l) 4 (by simp); simpa using this
@[simp] theorem atI_5 {α : Type} (a b c d e f : α) (l : List α) : atI (a :: b :: c :: d :: e :: f :: l) 5 = some f := by
  have := atI_nat' (a :: b :: c :: d :: e :: f :: l) 5 (by simp); simpa using this
theorem pAdd_str {a b : List Nat} (h : a.length + b.length ≤ 1000000) : pAdd [.str a, .str b] = some (.str (a ++ b)) := by simp [pAdd, h]
theorem pAdd_lst {o o' : Bool} {a b : List Dt} (h : a.length + b.length ≤ 1000000) (ha : cps a = true) (hb : cps b = true) : pAdd [.lst o a, .lst o' b] = some (.lst true (a ++ b)) := by simp [pAdd, h, ha, hb]
theorem strs_rows (w : List Nat) (rs : List Row) : strsD (.str w :: rs.map fun r => .str r.z) = some (w :: rs.map Row.z) := by
  have : (Dt.str w :: rs.map fun r => Dt.str r.z) = (w :: rs.map Row.z).map Dt.str := by simp [List.map_map, Function.comp]
  rw [this, strsD_map]
theorem jn_rows (w : List Nat) (rs : List Row) : jn [32] (w :: rs.map Row.z) = w ++ sepZ rs := by
  simp only [jn, sepZ]
  congr 1
  induction rs with
  | nil => rfl
  | cons r rs ih => rw [List.map_cons, List.flatMap_cons, ih, List.flatMap_cons]; rfl
theorem sum_rows {rs : List Row} (h : ∀ x ∈ rs, x.z.length ≤ x.n) : ((rs.map Row.z).map List.length).sum + rs.length ≤ rsN rs := by
  induction rs with
  | nil => simp
  | cons r rs ih =>
    have h1 := h r List.mem_cons_self
    have h2 := ih fun x hx => h x (List.mem_cons_of_mem _ hx)
    unfold rsN at *
    simp only [List.map_cons, List.sum_cons, List.length_cons]
    omega
theorem join_rows {w : List Nat} {rs : List Row} (hw : w.length ≤ 500000) (h : ∀ x ∈ rs, x.z.length ≤ x.n) (hn : rsN rs ≤ 400000) : pJoin [.str [32], .lst true (.str w :: rs.map fun r => .str r.z)] = some (.str (w ++ sepZ rs)) := by
  have q := sum_rows h
  unfold pJoin
  simp only [strs_rows, jn_rows]
  rw [if_pos]
  simp only [List.map_cons, List.sum_cons, List.length_cons, List.length_map, List.length_nil]
  omega
theorem rows_cp {rs : List Row} : cps (rs.map fun r => Dt.str r.z) = true := cps_map (fun _ => rfl) rs
theorem said_comp {f : Ev Dt} {rs : List Row} {d0 d1 : Dt} {S : List Ob} {q : Fn} (hf : f = evCall q 1 [] [.ev (evVar 3)]) (h : ∀ x ∈ rs, x.d.cp = true ∧ q [x.d] S = some (.str x.z, [], S)) : ∃ y, compL [3] (tgN 3) f (rs.map Row.d) ⟨[some d0, some d1, none, none], S⟩ = some (rs.map fun r => .str r.z, ⟨[some d0, some d1, none, y], S⟩) := by
  subst hf
  obtain ⟨m, e, y, rfl⟩ := compF (js := [3]) (tg := tgN 3) (f := evCall q 1 [] [.ev (evVar 3)]) Row.d (fun r => .str r.z) (fun m => ∃ y, m = (⟨[some d0, some d1, none, y], S⟩ : M)) rs _ ⟨none, rfl⟩ (by
    rintro r m hr ⟨y, rfl⟩
    obtain ⟨c, e⟩ := h r hr
    simp [fnRun, evSq, evIf, tstB, evPrim, evOms, evC, evVar, evMov, evAsg, tgN, tgT, tgL, tgsCons, tgsNil, evSetIx, evRet, evRetN, evDrop, evSkip, evCont, evPar, evSeq, evFz, evTru, tru, evAnd, evOr, evNot, evAndV, evOrV, evNotV, evChain, evChain2, evMut, muAppend, muPop, muExtend, muClear, evMeth, rfTy, Dt.ofTy, evMethT, evCall, clr, rfs, bput, backs, evFor, evRng1, evRng2, evItems, items, evComp, M.set, M.blank, blankR, rst, Q.small, evAug, and_assoc, c, e])
  exact ⟨y, e⟩
theorem tst_kind (k lit : List Nat) (x0 : Option Dt) (rest : List (Option Dt)) (S : List Ob) : tstB (evPrim pEq [.rf 1, .ev (evC (.str lit))]) ⟨x0 :: some (.str k) :: rest, S⟩ = some (decide (k = lit), ⟨x0 :: some (.str k) :: rest, S⟩) := by
  by_cases h : k = lit <;> simp [fnRun, evSq, evIf, tstB, evPrim, evOms, evC, evVar, evMov, evAsg, tgN, tgT, tgL, tgsCons, tgsNil, evSetIx, evRet, evRetN, evDrop, evSkip, evCont, evPar, evSeq, evFz, evTru, tru, evAnd, evOr, evNot, evAndV, evOrV, evNotV, evChain, evChain2, evMut, muAppend, muPop, muExtend, muClear, evMeth, rfTy, Dt.ofTy, evMethT, evCall, clr, rfs, bput, backs, evFor, evRng1, evRng2, evItems, items, evComp, M.set, M.blank, blankR, rst, pInt2, pCmp2, pAdd, pMul, pNeg, pIdx, cpo, pLen, pEqN, pInN, sq, pIsN, pNotN, pTuple, pList, pAll, pAny, pSum, pMaxL, pMax2, pMin2, pIntC, pStrI, pJoin, pUpper, pIndex, pIndexT, pIsi, kindT, isSub, pLeA, pRev, pRevS, evSl0, evSlL, evSlH, evSlB, slD, big_s, Q.small, evAug, Dt.isNon, and_assoc, ite_nle, ite_nlt, ite_ile, ite_ilt, ite_nle', ite_nlt', ite_ile', ite_ilt', bif_ile, h]
theorem sq_kind (k lit : List Nat) (A B : Es) (x0 : Option Dt) (rest : List (Option Dt)) (S : List Ob) : evSq (evIf (tstB (evPrim pEq [.rf 1, .ev (evC (.str lit))])) A evSkip) B ⟨x0 :: some (.str k) :: rest, S⟩ = if k = lit then evSq A B ⟨x0 :: some (.str k) :: rest, S⟩ else B ⟨x0 :: some (.str k) :: rest, S⟩ := by
  by_cases h : k = lit
  · simp [evSq, evIf, tst_kind, h]
  · simp [evSq, evIf, tst_kind, h, evSkip]
theorem sq_kind2 (k l1 l2 : List Nat) (A B : Es) (x0 : Option Dt) (rest : List (Option Dt)) (S : List Ob) : evSq (evIf (evOr (tstB (evPrim pEq [.rf 1, .ev (evC (.str l1))])) (tstB (evPrim pEq [.rf 1, .ev (evC (.str l2))]))) A evSkip) B ⟨x0 :: some (.str k) :: rest, S⟩ = if k = l1 ∨ k = l2 then evSq A B ⟨x0 :: some (.str k) :: rest, S⟩ else B ⟨x0 :: some (.str k) :: rest, S⟩ := by
  by_cases h : k = l1
  · simp [evSq, evIf, evOr, tst_kind, h]
  · by_cases h2 : k = l2
    · simp [evSq, evIf, evOr, tst_kind, h, h2]
    · simp [evSq, evIf, evOr, tst_kind, h, h2, evSkip]
theorem sq_rt {f : Ev Dt} {B : Es} {m m1 : M} {d : Dt} (h : f m = some (d, m1)) : evSq (evRet f) B m = some (.rt d, m1) := by simp [evSq, evRet, h]
theorem sq_nx {A B : Es} {m m1 : M} (h : A m = some (.nx, m1)) : evSq A B m = B m1 := by simp [evSq, h]
theorem rt_of {f : Ev Dt} {m m1 : M} {d : Dt} (h : f m = some (d, m1)) : evRet f m = some (.rt d, m1) := by simp [evRet, h]
theorem fn4 {body : Es} {d r : Dt} {S : List Ob} {m1 : M} (h : body ⟨[some d, none, none, none], S⟩ = some (.rt r, m1)) (hs : m1.S = S) : fnRun 4 [] body [d] S = some (r, [], S) := by
  simp [fnRun, h, backs, hs]
theorem kind_of {B : Es} {k : List Nat} {xs : List Dt} {rest : List (Option Dt)} {S : List Ob} : evSq (evAsg (evPrim pIdx [.rf 0, .ev (evC (.int 0))]) (tgN 1)) B ⟨some (.tup (.str k :: xs)) :: none :: rest, S⟩ = B ⟨some (.tup (.str k :: xs)) :: some (.str k) :: rest, S⟩ := by
  simp [fnRun, evSq, evIf, tstB, evPrim, evOms, evC, evVar, evMov, evAsg, tgN, tgT, tgL, tgsCons, tgsNil, evSetIx, evRet, evRetN, evDrop, evSkip, evCont, evPar, evSeq, evFz, evTru, tru, evAnd, evOr, evNot, evAndV, evOrV, evNotV, evChain, evChain2, evMut, muAppend, muPop, muExtend, muClear, evMeth, rfTy, Dt.ofTy, evMethT, evCall, clr, rfs, bput, backs, evFor, evRng1, evRng2, evItems, items, evComp, M.set, M.blank, blankR, rst, pInt2, pCmp2, pAdd, pMul, pNeg, pIdx, cpo, pLen, pEqN, pInN, sq, pIsN, pNotN, pTuple, pList, pAll, pAny, pSum, pMaxL, pMax2, pMin2, pIntC, pStrI, pJoin, pUpper, pIndex, pIndexT, pIsi, kindT, isSub, pLeA, pRev, pRevS, evSl0, evSlL, evSlH, evSlB, slD, big_s, Q.small, evAug, Dt.isNon, and_assoc, ite_nle, ite_nlt, ite_ile, ite_ilt, ite_nle', ite_nlt', ite_ile', ite_ilt', bif_ile]
theorem said_spec : ∀ (h : Nat) (r : Row), TmH h r → r.n ≤ 100000 → ∀ (n : Nat), h ≤ n → ∀ S, rLSaid n [r.d] S = some (.str r.z, [], S)
  | 0, r, e, _, _, _, _ => e.elim
  | h + 1, r, e, hn, 0, hl, S => by omega
  | h + 1, r, e, hn, n + 1, hl, S => by
    have ih := fun (x : Row) (hx : TmH h x) (hxn : x.n ≤ 100000) => said_spec h x hx hxn n (by omega) S
    have bo := TmH.both h
    have mem_n : ∀ (rs : List Row) (x : Row), x ∈ rs → x.n ≤ rsN rs := by
      intro rs
      induction rs with
      | nil => intro x hx; simp at hx
      | cons r rs ih2 =>
        intro x hx
        unfold rsN
        rw [List.map_cons, List.sum_cons]
        rcases List.mem_cons.mp hx with rfl | hx
        · omega
        · have := ih2 x hx; unfold rsN at this; omega
    unfold TmH at e
    rcases e with ⟨w, hw, rfl⟩ | ⟨w, hw, rfl⟩ | ⟨k, hk, hw, rfl⟩ | ⟨w, hw, rfl⟩ | ⟨s, a, b, hs, ha, hb, rfl⟩ | ⟨w, rs, hw, hr, hrl, rfl⟩ | ⟨w, a, b, hw, ha, hb, rfl⟩ | ⟨w, x, c, a, b, hw, hx, hc, ha, hb, rfl⟩ | ⟨c, rs, hc, hr, hrl, rfl⟩ | ⟨w, rs, hw, hr, hrl, rfl⟩
    · exact fn4 (m1 := ⟨[some (.tup [.str kName, .str w]), some (.str kName), none, none], S⟩) (by
        rw [kind_of, sq_kind2, if_pos (.inl rfl)]; exact sq_rt (by simp [fnRun, evSq, evIf, tstB, evPrim, evOms, evC, evVar, evMov, evAsg, tgN, tgT, tgL, tgsCons, tgsNil, evSetIx, evRet, evRetN, evDrop, evSkip, evCont, evPar, evSeq, evFz, evTru, tru, evAnd, evOr, evNot, evAndV, evOrV, evNotV, evChain, evChain2, evMut, muAppend, muPop, muExtend, muClear, evMeth, rfTy, Dt.ofTy, evMethT, evCall, clr, rfs, bput, backs, evFor, evRng1, evRng2, evItems, items, evComp, M.set, M.blank, blankR, rst, pInt2, pCmp2, pAdd, pMul, pNeg, pIdx, cpo, pLen, pEqN, pInN, sq, pIsN, pNotN, pTuple, pList, pAll, pAny, pSum, pMaxL, pMax2, pMin2, pIntC, pStrI, pJoin, pUpper, pIndex, pIndexT, pIsi, kindT, isSub, pLeA, pRev, pRevS, evSl0, evSlL, evSlH, evSlB, slD, big_s, Q.small, evAug, Dt.isNon, and_assoc, ite_nle, ite_nlt, ite_ile, ite_ilt, ite_nle', ite_nlt', ite_ile', ite_ilt', bif_ile])) rfl
    · exact fn4 (m1 := ⟨[some (.tup [.str kFixed, .str w]), some (.str kFixed), none, none], S⟩) (by
        rw [kind_of, sq_kind2, if_pos (.inr rfl)]; exact sq_rt (by simp [fnRun, evSq, evIf, tstB, evPrim, evOms, evC, evVar, evMov, evAsg, tgN, tgT, tgL, tgsCons, tgsNil, evSetIx, evRet, evRetN, evDrop, evSkip, evCont, evPar, evSeq, evFz, evTru, tru, evAnd, evOr, evNot, evAndV, evOrV, evNotV, evChain, evChain2, evMut, muAppend, muPop, muExtend, muClear, evMeth, rfTy, Dt.ofTy, evMethT, evCall, clr, rfs, bput, backs, evFor, evRng1, evRng2, evItems, items, evComp, M.set, M.blank, blankR, rst, pInt2, pCmp2, pAdd, pMul, pNeg, pIdx, cpo, pLen, pEqN, pInN, sq, pIsN, pNotN, pTuple, pList, pAll, pAny, pSum, pMaxL, pMax2, pMin2, pIntC, pStrI, pJoin, pUpper, pIndex, pIndexT, pIsi, kindT, isSub, pLeA, pRev, pRevS, evSl0, evSlL, evSlH, evSlB, slD, big_s, Q.small, evAug, Dt.isNon, and_assoc, ite_nle, ite_nlt, ite_ile, ite_ilt, ite_nle', ite_nlt', ite_ile', ite_ilt', bif_ile])) rfl
    · have hk' : k.natAbs < 18446744073709551616 := hk
      exact fn4 (m1 := ⟨[some (.tup [.str kNum, .int k]), some (.str kNum), none, none], S⟩) (by
        rw [kind_of, sq_kind2, if_neg (by decide), sq_kind, if_pos rfl]; exact sq_rt (by simp [fnRun, evSq, evIf, tstB, evPrim, evOms, evC, evVar, evMov, evAsg, tgN, tgT, tgL, tgsCons, tgsNil, evSetIx, evRet, evRetN, evDrop, evSkip, evCont, evPar, evSeq, evFz, evTru, tru, evAnd, evOr, evNot, evAndV, evOrV, evNotV, evChain, evChain2, evMut, muAppend, muPop, muExtend, muClear, evMeth, rfTy, Dt.ofTy, evMethT, evCall, clr, rfs, bput, backs, evFor, evRng1, evRng2, evItems, items, evComp, M.set, M.blank, blankR, rst, pInt2, pCmp2, pAdd, pMul, pNeg, pIdx, cpo, pLen, pEqN, pInN, sq, pIsN, pNotN, pTuple, pList, pAll, pAny, pSum, pMaxL, pMax2, pMin2, pIntC, pStrI, pJoin, pUpper, pIndex, pIndexT, pIsi, kindT, isSub, pLeA, pRev, pRevS, evSl0, evSlL, evSlH, evSlB, slD, big_s, Q.small, evAug, Dt.isNon, and_assoc, ite_nle, ite_nlt, ite_ile, ite_ilt, ite_nle', ite_nlt', ite_ile', ite_ilt', bif_ile, hk'])) rfl
    · have hw' : 1 + w.length ≤ 1000000 := by omega
      exact fn4 (m1 := ⟨[some (.tup [.str kCount, .str w]), some (.str kCount), none, none], S⟩) (by
        rw [kind_of, sq_kind2, if_neg (by decide), sq_kind, if_neg (by decide), sq_kind, if_pos rfl]; exact sq_rt (by simp [fnRun, evSq, evIf, tstB, evPrim, evOms, evC, evVar, evMov, evAsg, tgN, tgT, tgL, tgsCons, tgsNil, evSetIx, evRet, evRetN, evDrop, evSkip, evCont, evPar, evSeq, evFz, evTru, tru, evAnd, evOr, evNot, evAndV, evOrV, evNotV, evChain, evChain2, evMut, muAppend, muPop, muExtend, muClear, evMeth, rfTy, Dt.ofTy, evMethT, evCall, clr, rfs, bput, backs, evFor, evRng1, evRng2, evItems, items, evComp, M.set, M.blank, blankR, rst, pInt2, pCmp2, pAdd, pMul, pNeg, pIdx, cpo, pLen, pEqN, pInN, sq, pIsN, pNotN, pTuple, pList, pAll, pAny, pSum, pMaxL, pMax2, pMin2, pIntC, pStrI, pJoin, pUpper, pIndex, pIndexT, pIsi, kindT, isSub, pLeA, pRev, pRevS, evSl0, evSlL, evSlH, evSlB, slD, big_s, Q.small, evAug, Dt.isNon, and_assoc, ite_nle, ite_nlt, ite_ile, ite_ilt, ite_nle', ite_nlt', ite_ile', ite_ilt', bif_ile, hw'])) rfl
    · obtain ⟨a1, a2⟩ := bo a ha
      obtain ⟨b1, b2⟩ := bo b hb
      simp only at hn
      have ea := ih a ha (by omega)
      have eb := ih b hb (by omega)
      exact fn4 (m1 := ⟨[some (.tup [.str kOp, .str s, a.d, b.d]), some (.str kOp), none, none], S⟩) (by
        rw [kind_of, sq_kind2, if_neg (by decide), sq_kind, if_neg (by decide), sq_kind, if_neg (by decide), sq_kind, if_pos rfl]
        exact sq_rt (by simp (disch := first | (simp only [List.length_append, List.length_cons, List.length_nil]; omega) | simp) [fnRun, evSq, evIf, tstB, evPrim, evOms, evC, evVar, evMov, evAsg, tgN, tgT, tgL, tgsCons, tgsNil, evSetIx, evRet, evRetN, evDrop, evSkip, evCont, evPar, evSeq, evFz, evTru, tru, evAnd, evOr, evNot, evAndV, evOrV, evNotV, evChain, evChain2, evMut, muAppend, muPop, muExtend, muClear, evMeth, rfTy, Dt.ofTy, evMethT, evCall, clr, rfs, bput, backs, evFor, evRng1, evRng2, evItems, items, evComp, M.set, M.blank, blankR, rst, pInt2, pCmp2, pMul, pNeg, pIdx, cpo, pLen, pEqN, pInN, sq, pIsN, pNotN, pTuple, pList, pAll, pAny, pSum, pMaxL, pMax2, pMin2, pIntC, pStrI, pJoin, pUpper, pIndex, pIndexT, pIsi, kindT, isSub, pLeA, pRev, pRevS, evSl0, evSlL, evSlH, evSlB, slD, big_s, Q.small, evAug, Dt.isNon, and_assoc, bif_ile, a1, b1, ea, eb, pAdd_str])) rfl
    · simp only at hn
      obtain ⟨y, ec⟩ := said_comp (f := cLSaid1 (rLSaid n)) (rs := rs) (d0 := .tup [.str kDo, .str w, .tup (rs.map Row.d)]) (d1 := .str kDo) (S := S) rfl fun x hx => ⟨(bo x (hr x hx)).1, ih x (hr x hx) (by have := mem_n rs x hx; omega)⟩
      have cr : cps (rs.map Row.d) = true := cps_of fun d hd => by obtain ⟨x, hx, rfl⟩ := List.mem_map.mp hd; exact (bo x (hr x hx)).1
      have ej := join_rows (w := w) (rs := rs) (by omega) (fun x hx => (bo x (hr x hx)).2) (by omega)
      have hz := sepZ_len (rs := rs) fun x hx => (bo x (hr x hx)).2
      have hl1 : rs.length ≤ 1000000 := by omega
      have hl2 : [Dt.str w].length + (rs.map fun r => Dt.str r.z).length ≤ 1000000 := by simp; omega
      have el := pAdd_lst (o := true) (o' := true) hl2 (by simp) rows_cp
      exact fn4 (m1 := ⟨[some (.tup [.str kDo, .str w, .tup (rs.map Row.d)]), some (.str kDo), none, none], S⟩) (by
        rw [kind_of, sq_kind2, if_neg (by decide), sq_kind, if_neg (by decide), sq_kind, if_neg (by decide), sq_kind, if_neg (by decide), sq_kind, if_pos rfl]
        refine sq_rt ?_
        have q1 : pAdd [.str [40], .str (w ++ sepZ rs)] = some (.str ([40] ++ (w ++ sepZ rs))) := pAdd_str (by simp; omega)
        have q2 : pAdd [.str ([40] ++ (w ++ sepZ rs)), .str [41]] = some (.str ([40] ++ (w ++ sepZ rs) ++ [41])) := pAdd_str (by simp; omega)
        simp at q1 q2 el
        simp [fnRun, evSq, evIf, tstB, evPrim, evOms, evC, evVar, evMov, evAsg, tgN, tgT, tgL, tgsCons, tgsNil, evSetIx, evRet, evRetN, evDrop, evSkip, evCont, evPar, evSeq, evFz, evTru, tru, evAnd, evOr, evNot, evAndV, evOrV, evNotV, evChain, evChain2, evMut, muAppend, muPop, muExtend, muClear, evMeth, rfTy, Dt.ofTy, evMethT, evCall, clr, rfs, bput, backs, evFor, evRng1, evRng2, evItems, items, evComp, M.set, M.blank, blankR, rst, Q.small, evAug, and_assoc, pIdx, cpo, cr, ec, hl1, el, ej, q1, q2]) rfl
    · obtain ⟨a1, a2⟩ := bo a ha
      obtain ⟨b1, b2⟩ := bo b hb
      simp only at hn
      have ea := ih a ha (by omega)
      have eb := ih b hb (by omega)
      exact fn4 (m1 := ⟨[some (.tup [.str kLet, .str w, a.d, b.d]), some (.str kLet), none, none], S⟩) (by
        rw [kind_of, sq_kind2, if_neg (by decide), sq_kind, if_neg (by decide), sq_kind, if_neg (by decide), sq_kind, if_neg (by decide), sq_kind, if_neg (by decide), sq_kind, if_pos rfl]
        exact sq_rt (by simp (disch := first | (simp only [List.length_append, List.length_cons, List.length_nil]; omega) | simp) [fnRun, evSq, evIf, tstB, evPrim, evOms, evC, evVar, evMov, evAsg, tgN, tgT, tgL, tgsCons, tgsNil, evSetIx, evRet, evRetN, evDrop, evSkip, evCont, evPar, evSeq, evFz, evTru, tru, evAnd, evOr, evNot, evAndV, evOrV, evNotV, evChain, evChain2, evMut, muAppend, muPop, muExtend, muClear, evMeth, rfTy, Dt.ofTy, evMethT, evCall, clr, rfs, bput, backs, evFor, evRng1, evRng2, evItems, items, evComp, M.set, M.blank, blankR, rst, pInt2, pCmp2, pMul, pNeg, pIdx, cpo, pLen, pEqN, pInN, sq, pIsN, pNotN, pTuple, pList, pAll, pAny, pSum, pMaxL, pMax2, pMin2, pIntC, pStrI, pJoin, pUpper, pIndex, pIndexT, pIsi, kindT, isSub, pLeA, pRev, pRevS, evSl0, evSlL, evSlH, evSlB, slD, big_s, Q.small, evAug, Dt.isNon, and_assoc, bif_ile, a1, b1, ea, eb, pAdd_str])) rfl
    · obtain ⟨a1, a2⟩ := bo a ha
      obtain ⟨b1, b2⟩ := bo b hb
      obtain ⟨c1, c2⟩ := bo c hc
      simp only at hn
      have ea := ih a ha (by omega)
      have eb := ih b hb (by omega)
      have ec := ih c hc (by omega)
      exact fn4 (m1 := ⟨[some (.tup [.str kLoop, .str w, c.d, .str x, a.d, b.d]), some (.str kLoop), some (.str ([40, 108, 111, 111, 112, 32, 35] ++ w ++ 32 :: c.z ++ 32 :: x)), none], S⟩) (by
        rw [kind_of, sq_kind2, if_neg (by decide), sq_kind, if_neg (by decide), sq_kind, if_neg (by decide), sq_kind, if_neg (by decide), sq_kind, if_neg (by decide), sq_kind, if_neg (by decide), sq_kind, if_pos rfl]
        simp (disch := first | (simp only [List.length_append, List.length_cons, List.length_nil]; omega) | simp) [fnRun, evSq, evIf, tstB, evPrim, evOms, evC, evVar, evMov, evAsg, tgN, tgT, tgL, tgsCons, tgsNil, evSetIx, evRet, evRetN, evDrop, evSkip, evCont, evPar, evSeq, evFz, evTru, tru, evAnd, evOr, evNot, evAndV, evOrV, evNotV, evChain, evChain2, evMut, muAppend, muPop, muExtend, muClear, evMeth, rfTy, Dt.ofTy, evMethT, evCall, clr, rfs, bput, backs, evFor, evRng1, evRng2, evItems, items, evComp, M.set, M.blank, blankR, rst, pInt2, pCmp2, pMul, pNeg, pIdx, cpo, pLen, pEqN, pInN, sq, pIsN, pNotN, pTuple, pList, pAll, pAny, pSum, pMaxL, pMax2, pMin2, pIntC, pStrI, pJoin, pUpper, pIndex, pIndexT, pIsi, kindT, isSub, pLeA, pRev, pRevS, evSl0, evSlL, evSlH, evSlB, slD, big_s, Q.small, evAug, Dt.isNon, and_assoc, bif_ile, a1, b1, c1, ea, eb, ec, pAdd_str]) rfl
    · simp only at hn
      obtain ⟨c1, c2⟩ := bo c hc
      have e1 := ih c hc (by omega)
      obtain ⟨y, ec⟩ := said_comp (f := cLSaid2 (rLSaid n)) (rs := rs) (d0 := .tup [.str kPick, c.d, .tup (rs.map Row.d)]) (d1 := .str kPick) (S := S) rfl fun x hx => ⟨(bo x (hr x hx)).1, ih x (hr x hx) (by have := mem_n rs x hx; omega)⟩
      have cr : cps (rs.map Row.d) = true := cps_of fun d hd => by obtain ⟨x, hx, rfl⟩ := List.mem_map.mp hd; exact (bo x (hr x hx)).1
      have ej := join_rows (w := c.z) (rs := rs) (by omega) (fun x hx => (bo x (hr x hx)).2) (by omega)
      have hz := sepZ_len (rs := rs) fun x hx => (bo x (hr x hx)).2
      have hl1 : rs.length ≤ 1000000 := by omega
      have hl2 : [Dt.str c.z].length + (rs.map fun r => Dt.str r.z).length ≤ 1000000 := by simp; omega
      have el := pAdd_lst (o := true) (o' := true) hl2 (by simp) rows_cp
      exact fn4 (m1 := ⟨[some (.tup [.str kPick, c.d, .tup (rs.map Row.d)]), some (.str kPick), none, none], S⟩) (by
        rw [kind_of, sq_kind2, if_neg (by decide), sq_kind, if_neg (by decide), sq_kind, if_neg (by decide), sq_kind, if_neg (by decide), sq_kind, if_neg (by decide), sq_kind, if_neg (by decide), sq_kind, if_neg (by decide), sq_kind, if_pos rfl]
        refine sq_rt ?_
        have q1 : pAdd [.str [40, 112, 105, 99, 107, 32], .str (c.z ++ sepZ rs)] = some (.str ([40, 112, 105, 99, 107, 32] ++ (c.z ++ sepZ rs))) := pAdd_str (by simp; omega)
        have q2 : pAdd [.str ([40, 112, 105, 99, 107, 32] ++ (c.z ++ sepZ rs)), .str [41]] = some (.str ([40, 112, 105, 99, 107, 32] ++ (c.z ++ sepZ rs) ++ [41])) := pAdd_str (by simp; omega)
        simp at q1 q2 el
        simp [fnRun, evSq, evIf, tstB, evPrim, evOms, evC, evVar, evMov, evAsg, tgN, tgT, tgL, tgsCons, tgsNil, evSetIx, evRet, evRetN, evDrop, evSkip, evCont, evPar, evSeq, evFz, evTru, tru, evAnd, evOr, evNot, evAndV, evOrV, evNotV, evChain, evChain2, evMut, muAppend, muPop, muExtend, muClear, evMeth, rfTy, Dt.ofTy, evMethT, evCall, clr, rfs, bput, backs, evFor, evRng1, evRng2, evItems, items, evComp, M.set, M.blank, blankR, rst, Q.small, evAug, and_assoc, pIdx, cpo, cr, c1, e1, ec, hl1, el, ej, q1, q2]) rfl
    · simp only at hn
      obtain ⟨y, ec⟩ := said_comp (f := cLSaid3 (rLSaid n)) (rs := rs) (d0 := .tup [.str kCall, .str w, .tup (rs.map Row.d)]) (d1 := .str kCall) (S := S) rfl fun x hx => ⟨(bo x (hr x hx)).1, ih x (hr x hx) (by have := mem_n rs x hx; omega)⟩
      have cr : cps (rs.map Row.d) = true := cps_of fun d hd => by obtain ⟨x, hx, rfl⟩ := List.mem_map.mp hd; exact (bo x (hr x hx)).1
      have ej := join_rows (w := w) (rs := rs) (by omega) (fun x hx => (bo x (hr x hx)).2) (by omega)
      have hz := sepZ_len (rs := rs) fun x hx => (bo x (hr x hx)).2
      have hl1 : rs.length ≤ 1000000 := by omega
      have hl2 : [Dt.str w].length + (rs.map fun r => Dt.str r.z).length ≤ 1000000 := by simp; omega
      have el := pAdd_lst (o := true) (o' := true) hl2 (by simp) rows_cp
      exact fn4 (m1 := ⟨[some (.tup [.str kCall, .str w, .tup (rs.map Row.d)]), some (.str kCall), none, none], S⟩) (by
        rw [kind_of, sq_kind2, if_neg (by decide), sq_kind, if_neg (by decide), sq_kind, if_neg (by decide), sq_kind, if_neg (by decide), sq_kind, if_neg (by decide), sq_kind, if_neg (by decide), sq_kind, if_neg (by decide), sq_kind, if_neg (by decide)]
        refine rt_of ?_
        have q1 : pAdd [.str [40, 99, 97, 108, 108, 32], .str (w ++ sepZ rs)] = some (.str ([40, 99, 97, 108, 108, 32] ++ (w ++ sepZ rs))) := pAdd_str (by simp; omega)
        have q2 : pAdd [.str ([40, 99, 97, 108, 108, 32] ++ (w ++ sepZ rs)), .str [41]] = some (.str ([40, 99, 97, 108, 108, 32] ++ (w ++ sepZ rs) ++ [41])) := pAdd_str (by simp; omega)
        simp at q1 q2 el
        simp [fnRun, evSq, evIf, tstB, evPrim, evOms, evC, evVar, evMov, evAsg, tgN, tgT, tgL, tgsCons, tgsNil, evSetIx, evRet, evRetN, evDrop, evSkip, evCont, evPar, evSeq, evFz, evTru, tru, evAnd, evOr, evNot, evAndV, evOrV, evNotV, evChain, evChain2, evMut, muAppend, muPop, muExtend, muClear, evMeth, rfTy, Dt.ofTy, evMethT, evCall, clr, rfs, bput, backs, evFor, evRng1, evRng2, evItems, items, evComp, M.set, M.blank, blankR, rst, Q.small, evAug, and_assoc, pIdx, cpo, cr, ec, hl1, el, ej, q1, q2]) rfl
end My
namespace My
open PySem L2 Q
def ItS (h : Nat) (r : Row) : Prop := (r.d = .str r.z ∧ r.z.length ≤ 20 ∧ r.n = 1) ∨ TmH h r
theorem ItS.cp {h : Nat} {r : Row} (e : ItS h r) : r.d.cp = true := by
  rcases e with ⟨e, _⟩ | e
  · rw [e]; rfl
  · exact (TmH.both h r e).1
def strR (w : List Nat) : Row := ⟨.str w, w, 1⟩
theorem strR_ok {h : Nat} {w : List Nat} (hw : w.length ≤ 20) : ItS h (strR w) := .inl ⟨rfl, hw, rfl⟩
def items2 (rs : List Row) : List Row := rs.flatMap fun r => [strR [32], r]
def catZ (rs : List Row) : List Nat := rs.flatMap Row.z
def sumN (rs : List Row) : Nat := (rs.map Row.n).sum
theorem items2_len (rs : List Row) : (items2 rs).length = 2 * rs.length := by
  induction rs with
  | nil => rfl
  | cons r rs ih =>
    show ([strR [32], r] ++ items2 rs).length = _
    rw [List.length_append, ih]
    simp; omega
theorem bracketed_spec (ow : Bool) (o c : List Nat) (r : Row) (rs : List Row) (hl : rs.length ≤ 10) (hc : ∀ x ∈ r :: rs, x.d.cp = true) (S : List Ob) : rBracketed [.str o, .lst ow ((r :: rs).map Row.d), .str c] S = some (.lst true ((strR o :: r :: items2 rs ++ [strR c]).map Row.d), [], S) := by
  have hr := hc r List.mem_cons_self
  have hcs : cps (rs.map Row.d) = true := cps_of fun d hd => by obtain ⟨x, hx, rfl⟩ := List.mem_map.mp hd; exact hc x (List.mem_cons_of_mem _ hx)
  obtain ⟨m, e, y, rfl⟩ := forP (tg := tgN 4) (b := bBracketed1) Row.d (fun pre m => ∃ y, m = (⟨[some (.str o), some (.lst ow ((r :: rs).map Row.d)), some (.str c), some (.lst true ((strR o :: r :: items2 pre).map Row.d)), y], S⟩ : M)) rs ⟨[some (.str o), some (.lst ow ((r :: rs).map Row.d)), some (.str c), some (.lst true [.str o, r.d]), none], S⟩ ⟨none, rfl⟩ (by
    rintro pre x m hp ⟨y, rfl⟩
    have hx : x ∈ rs := hp.subset (List.mem_append_right _ (List.mem_singleton.mpr rfl))
    have hcx := hc x (List.mem_cons_of_mem _ hx)
    have hpl : pre.length < rs.length := by have := hp.length_le; simp at this; omega
    have hil : (items2 pre).length = 2 * pre.length := items2_len pre
    have e_it : (items2 (pre ++ [x])).map Row.d = (items2 pre).map Row.d ++ [.str [32], x.d] := by simp [items2, strR]
    have hL : ((items2 pre).map Row.d).length ≤ 900000 := by rw [List.length_map]; omega
    refine ⟨.nx, ⟨[some (.str o), some (.lst ow ((r :: rs).map Row.d)), some (.str c), some (.lst true ((strR o :: r :: items2 (pre ++ [x])).map Row.d)), some x.d], S⟩, ?_, .inl rfl, _, rfl⟩
    simp only [List.map_cons, e_it]
    generalize (items2 pre).map Row.d = L at hL
    have k3 : L.length ≤ 999998 := by omega
    have k4 : L.length ≤ 999997 := by omega
    simp [bBracketed1, fnRun, evSq, evIf, tstB, evPrim, evOms, evC, evVar, evMov, evAsg, tgN, tgT, tgL, tgsCons, tgsNil, evSetIx, evRet, evRetN, evDrop, evSkip, evCont, evPar, evSeq, evFz, evTru, tru, evAnd, evOr, evNot, evAndV, evOrV, evNotV, evChain, evChain2, evMut, muAppend, muPop, muExtend, muClear, evMeth, rfTy, Dt.ofTy, evMethT, evCall, clr, rfs, bput, backs, evFor, evRng1, evRng2, evItems, items, evComp, M.set, M.blank, blankR, rst, pInt2, pCmp2, pAdd, pMul, pNeg, pIdx, cpo, pLen, pEqN, pInN, sq, pIsN, pNotN, pTuple, pList, pAll, pAny, pSum, pMaxL, pMax2, pMin2, pIntC, pStrI, pJoin, pUpper, pIndex, pIndexT, pIsi, kindT, isSub, pLeA, pRev, pRevS, evSl0, evSlL, evSlH, evSlB, slD, big_s, Q.small, evAug, Dt.isNon, and_assoc, ite_nle, ite_nlt, ite_ile, ite_ilt, ite_nle', ite_nlt', ite_ile', ite_ilt', bif_ile, hcx, k3, k4, strR])
  have hil := items2_len rs
  have hL : ((items2 rs).map Row.d).length ≤ 900000 := by rw [List.length_map]; omega
  unfold rBracketed
  simp only [List.map_cons, List.map_append] at e ⊢
  generalize (items2 rs).map Row.d = L at hL e ⊢
  have k3 : L.length ≤ 999998 := by omega
  simp [fnRun, evSq, evIf, tstB, evPrim, evOms, evC, evVar, evMov, evAsg, tgN, tgT, tgL, tgsCons, tgsNil, evSetIx, evRet, evRetN, evDrop, evSkip, evCont, evPar, evSeq, evFz, evTru, tru, evAnd, evOr, evNot, evAndV, evOrV, evNotV, evChain, evChain2, evMut, muAppend, muPop, muExtend, muClear, evMeth, rfTy, Dt.ofTy, evMethT, evCall, clr, rfs, bput, backs, evFor, evRng1, evRng2, evItems, items, evComp, M.set, M.blank, blankR, rst, pInt2, pCmp2, pAdd, pMul, pNeg, pIdx, cpo, pLen, pEqN, pInN, sq, pIsN, pNotN, pTuple, pList, pAll, pAny, pSum, pMaxL, pMax2, pMin2, pIntC, pStrI, pJoin, pUpper, pIndex, pIndexT, pIsi, kindT, isSub, pLeA, pRev, pRevS, evSl0, evSlL, evSlH, evSlB, slD, big_s, Q.small, evAug, Dt.isNon, and_assoc, ite_nle, ite_nlt, ite_ile, ite_ilt, ite_nle', ite_nlt', ite_ile', ite_ilt', bif_ile, strR] at e ⊢
  simp [fnRun, evSq, evIf, tstB, evPrim, evOms, evC, evVar, evMov, evAsg, tgN, tgT, tgL, tgsCons, tgsNil, evSetIx, evRet, evRetN, evDrop, evSkip, evCont, evPar, evSeq, evFz, evTru, tru, evAnd, evOr, evNot, evAndV, evOrV, evNotV, evChain, evChain2, evMut, muAppend, muPop, muExtend, muClear, evMeth, rfTy, Dt.ofTy, evMethT, evCall, clr, rfs, bput, backs, evFor, evRng1, evRng2, evItems, items, evComp, M.set, M.blank, blankR, rst, pInt2, pCmp2, pAdd, pMul, pNeg, pIdx, cpo, pLen, pEqN, pInN, sq, pIsN, pNotN, pTuple, pList, pAll, pAny, pSum, pMaxL, pMax2, pMin2, pIntC, pStrI, pJoin, pUpper, pIndex, pIndexT, pIsi, kindT, isSub, pLeA, pRev, pRevS, evSl0, evSlL, evSlH, evSlB, slD, big_s, Q.small, evAug, Dt.isNon, and_assoc, ite_nle, ite_nlt, ite_ile, ite_ilt, ite_nle', ite_nlt', ite_ile', ite_ilt', bif_ile, hr, hcs, cutA_from, e, k3]
theorem fn2 {body : Es} {d r : Dt} {S : List Ob} {m1 : M} (h : body ⟨[some d, none], S⟩ = some (.rt r, m1)) (hs : m1.S = S) : fnRun 2 [] body [d] S = some (r, [], S) := by
  simp [fnRun, h, backs, hs]
def brk (o c : List Nat) (r : Row) (rs : List Row) : List Row := strR o :: r :: items2 rs ++ [strR c]
theorem cat_items2 (rs : List Row) : catZ (items2 rs) = sepZ rs := by
  induction rs with
  | nil => rfl
  | cons r rs ih =>
    show catZ ([strR [32], r] ++ items2 rs) = _
    unfold catZ sepZ at *
    rw [List.flatMap_append, ih, List.flatMap_cons]
    simp [strR]
theorem sum_items2 (rs : List Row) : sumN (items2 rs) = sumN rs + rs.length := by
  induction rs with
  | nil => rfl
  | cons r rs ih =>
    show sumN ([strR [32], r] ++ items2 rs) = _
    unfold sumN at *
    rw [List.map_append, List.sum_append, ih]
    simp [strR]; omega
theorem brk_ok {h : Nat} {o c : List Nat} {r : Row} {rs : List Row} (ho : o.length ≤ 20) (hc : c.length ≤ 20) (hr : ItS h r) (hrs : ∀ x ∈ rs, ItS h x) : (∀ x ∈ brk o c r rs, ItS h x) ∧ catZ (brk o c r rs) = o ++ r.z ++ sepZ rs ++ c ∧ sumN (brk o c r rs) = r.n + sumN rs + rs.length + 2 := by
  refine ⟨fun x hx => ?_, ?_, ?_⟩
  · unfold brk at hx
    rcases List.mem_append.mp hx with hx | hx
    · rcases List.mem_cons.mp hx with rfl | hx
      · exact strR_ok ho
      · rcases List.mem_cons.mp hx with rfl | hx
        · exact hr
        · unfold items2 at hx
          obtain ⟨y, hy, hx⟩ := List.mem_flatMap.mp hx
          rcases List.mem_cons.mp hx with rfl | hx
          · exact strR_ok (by decide)
          · rw [List.mem_singleton.mp hx]; exact hrs y hy
    · rw [List.mem_singleton.mp hx]; exact strR_ok hc
  · unfold brk
    have := cat_items2 rs
    unfold catZ at *
    simp [List.flatMap_append, this, strR]
  · unfold brk
    have := sum_items2 rs
    unfold sumN at *
    simp only [List.map_append, List.map_cons, List.sum_append, List.sum_cons, List.map_nil, List.sum_nil, this]
    simp [strR]; omega
theorem sumN_le (rs : List Row) : sumN rs + 2 * rs.length = rsN rs := by
  induction rs with
  | nil => rfl
  | cons r rs ih => unfold sumN rsN at *; simp only [List.map_cons, List.sum_cons, List.length_cons]; omega
theorem words_spec {h : Nat} {r : Row} (e : TmH (h + 1) r) (S : List Ob) : (∃ k xs, r.d = .tup (.str k :: xs) ∧ k ≠ kName ∧ k ≠ kFixed ∧ k ≠ kNum ∧ k ≠ kCount ∧ k ≠ kOp ∧ ∃ (x : Row) (rs : List Row), rWordsOf [r.d] S = some (.lst true ((x :: rs).map Row.d), [], S) ∧ ItS h x ∧ (∀ y ∈ rs, ItS h y) ∧ r.z = [40] ++ x.z ++ sepZ rs ++ [41] ∧ x.n + sumN rs + rs.length + 2 < r.n ∧ rs.length ≤ 10) ∨
    (∃ w, w.length ≤ 8 ∧ r = ⟨.tup [.str kName, .str w], w, 20⟩) ∨ (∃ w, w.length ≤ 8 ∧ r = ⟨.tup [.str kFixed, .str w], w, 20⟩) ∨ (∃ k : Int, k.natAbs < 2 ^ 64 ∧ (figs k).length ≤ 8 ∧ r = ⟨.tup [.str kNum, .int k], figs k, 20⟩) ∨ (∃ w, w.length ≤ 8 ∧ r = ⟨.tup [.str kCount, .str w], 35 :: w, 20⟩) ∨
    (∃ s a b, s.length ≤ 8 ∧ TmH h a ∧ TmH h b ∧ r = ⟨.tup [.str kOp, .str s, a.d, b.d], 91 :: a.z ++ 32 :: s ++ 32 :: b.z ++ [93], a.n + b.n + 40⟩) := by
  have bo := TmH.both h
  have cps_rs : ∀ rs : List Row, (∀ x ∈ rs, TmH h x) → cps (rs.map Row.d) = true := fun rs hr => cps_of fun d hd => by obtain ⟨x, hx, rfl⟩ := List.mem_map.mp hd; exact (bo x (hr x hx)).1
  unfold TmH at e
  rcases e with e | e | e | e | e | ⟨w, rs, hw, hr, hrl, rfl⟩ | ⟨w, a, b, hw, ha, hb, rfl⟩ | ⟨w, x, c, a, b, hw, hx, hc, ha, hb, rfl⟩ | ⟨c, rs, hc, hr, hrl, rfl⟩ | ⟨w, rs, hw, hr, hrl, rfl⟩
  · exact .inr (.inl e)
  · exact .inr (.inr (.inl e))
  · exact .inr (.inr (.inr (.inl e)))
  · exact .inr (.inr (.inr (.inr (.inl e))))
  · exact .inr (.inr (.inr (.inr (.inr e))))
  · have cr := cps_rs rs hr
    have g1 : rs.length + 1 ≤ 1000000 := by omega
    have g2 : 1 + rs.length ≤ 1000000 := by omega
    have q := sumN_le rs
    refine .inl ⟨kDo, _, rfl, by decide, by decide, by decide, by decide, by decide, strR w, rs, ?_, strR_ok (by omega), fun y hy => .inr (hr y hy), by simp [strR], by simp [strR]; omega, by omega⟩
    exact fn2 (m1 := ⟨[some (.tup [.str kDo, .str w, .tup (rs.map Row.d)]), some (.str kDo)], S⟩) (by
      rw [kind_of, sq_kind, if_neg (by decide), sq_kind, if_neg (by decide), sq_kind, if_neg (by decide), sq_kind, if_neg (by decide)]
      exact rt_of (by simp [fnRun, evSq, evIf, tstB, evPrim, evOms, evC, evVar, evMov, evAsg, tgN, tgT, tgL, tgsCons, tgsNil, evSetIx, evRet, evRetN, evDrop, evSkip, evCont, evPar, evSeq, evFz, evTru, tru, evAnd, evOr, evNot, evAndV, evOrV, evNotV, evChain, evChain2, evMut, muAppend, muPop, muExtend, muClear, evMeth, rfTy, Dt.ofTy, evMethT, evCall, clr, rfs, bput, backs, evFor, evRng1, evRng2, evItems, items, evComp, M.set, M.blank, blankR, rst, pInt2, pCmp2, pAdd, pMul, pNeg, pIdx, cpo, pLen, pEqN, pInN, sq, pIsN, pNotN, pTuple, pList, pAll, pAny, pSum, pMaxL, pMax2, pMin2, pIntC, pStrI, pJoin, pUpper, pIndex, pIndexT, pIsi, kindT, isSub, pLeA, pRev, pRevS, evSl0, evSlL, evSlH, evSlB, slD, big_s, Q.small, evAug, Dt.isNon, and_assoc, ite_nle, ite_nlt, ite_ile, ite_ilt, ite_nle', ite_nlt', ite_ile', ite_ilt', bif_ile, cr, g1, g2, strR])) rfl
  · obtain ⟨a1, a2⟩ := bo a ha
    obtain ⟨b1, b2⟩ := bo b hb
    refine .inl ⟨kLet, _, rfl, by decide, by decide, by decide, by decide, by decide, strR kLet, [strR w, a, b], ?_, strR_ok (by decide), ?_, by simp [strR, sepZ], by simp [strR, sumN]; omega, by simp⟩
    · exact fn2 (m1 := ⟨[some (.tup [.str kLet, .str w, a.d, b.d]), some (.str kLet)], S⟩) (by
        rw [kind_of, sq_kind, if_pos rfl]
        exact sq_rt (by simp [fnRun, evSq, evIf, tstB, evPrim, evOms, evC, evVar, evMov, evAsg, tgN, tgT, tgL, tgsCons, tgsNil, evSetIx, evRet, evRetN, evDrop, evSkip, evCont, evPar, evSeq, evFz, evTru, tru, evAnd, evOr, evNot, evAndV, evOrV, evNotV, evChain, evChain2, evMut, muAppend, muPop, muExtend, muClear, evMeth, rfTy, Dt.ofTy, evMethT, evCall, clr, rfs, bput, backs, evFor, evRng1, evRng2, evItems, items, evComp, M.set, M.blank, blankR, rst, pInt2, pCmp2, pAdd, pMul, pNeg, pIdx, cpo, pLen, pEqN, pInN, sq, pIsN, pNotN, pTuple, pList, pAll, pAny, pSum, pMaxL, pMax2, pMin2, pIntC, pStrI, pJoin, pUpper, pIndex, pIndexT, pIsi, kindT, isSub, pLeA, pRev, pRevS, evSl0, evSlL, evSlH, evSlB, slD, big_s, Q.small, evAug, Dt.isNon, and_assoc, ite_nle, ite_nlt, ite_ile, ite_ilt, ite_nle', ite_nlt', ite_ile', ite_ilt', bif_ile, a1, b1, strR])) rfl
    · intro y hy
      rcases List.mem_cons.mp hy with rfl | hy
      · exact strR_ok (by omega)
      · rcases List.mem_cons.mp hy with rfl | hy
        · exact .inr ha
        · rw [List.mem_singleton.mp hy]; exact .inr hb
  · obtain ⟨a1, a2⟩ := bo a ha
    obtain ⟨b1, b2⟩ := bo b hb
    obtain ⟨c1, c2⟩ := bo c hc
    have g1 : 1 + w.length ≤ 1000000 := by omega
    refine .inl ⟨kLoop, _, rfl, by decide, by decide, by decide, by decide, by decide, strR kLoop, [strR (35 :: w), c, strR x, a, b], ?_, strR_ok (by decide), ?_, by simp [strR, sepZ], by simp [strR, sumN]; omega, by simp⟩
    · exact fn2 (m1 := ⟨[some (.tup [.str kLoop, .str w, c.d, .str x, a.d, b.d]), some (.str kLoop)], S⟩) (by
        rw [kind_of, sq_kind, if_neg (by decide), sq_kind, if_pos rfl]
        exact sq_rt (by simp [fnRun, evSq, evIf, tstB, evPrim, evOms, evC, evVar, evMov, evAsg, tgN, tgT, tgL, tgsCons, tgsNil, evSetIx, evRet, evRetN, evDrop, evSkip, evCont, evPar, evSeq, evFz, evTru, tru, evAnd, evOr, evNot, evAndV, evOrV, evNotV, evChain, evChain2, evMut, muAppend, muPop, muExtend, muClear, evMeth, rfTy, Dt.ofTy, evMethT, evCall, clr, rfs, bput, backs, evFor, evRng1, evRng2, evItems, items, evComp, M.set, M.blank, blankR, rst, pInt2, pCmp2, pAdd, pMul, pNeg, pIdx, cpo, pLen, pEqN, pInN, sq, pIsN, pNotN, pTuple, pList, pAll, pAny, pSum, pMaxL, pMax2, pMin2, pIntC, pStrI, pJoin, pUpper, pIndex, pIndexT, pIsi, kindT, isSub, pLeA, pRev, pRevS, evSl0, evSlL, evSlH, evSlB, slD, big_s, Q.small, evAug, Dt.isNon, and_assoc, ite_nle, ite_nlt, ite_ile, ite_ilt, ite_nle', ite_nlt', ite_ile', ite_ilt', bif_ile, a1, b1, c1, g1, strR])) rfl
    · intro y hy
      rcases List.mem_cons.mp hy with rfl | hy
      · exact strR_ok (by simp; omega)
      · rcases List.mem_cons.mp hy with rfl | hy
        · exact .inr hc
        · rcases List.mem_cons.mp hy with rfl | hy
          · exact strR_ok (by omega)
          · rcases List.mem_cons.mp hy with rfl | hy
            · exact .inr ha
            · rw [List.mem_singleton.mp hy]; exact .inr hb
  · have cr := cps_rs rs hr
    obtain ⟨c1, c2⟩ := bo c hc
    have g1 : 2 + rs.length ≤ 1000000 := by omega
    have g2 : rs.length + 1 + 1 ≤ 1000000 := by omega
    have q := sumN_le rs
    refine .inl ⟨kPick, _, rfl, by decide, by decide, by decide, by decide, by decide, strR kPick, c :: rs, ?_, strR_ok (by decide), ?_, by simp [strR, sepZ], by simp [strR, sumN] at *; omega, by simp; omega⟩
    · exact fn2 (m1 := ⟨[some (.tup [.str kPick, c.d, .tup (rs.map Row.d)]), some (.str kPick)], S⟩) (by
        rw [kind_of, sq_kind, if_neg (by decide), sq_kind, if_neg (by decide), sq_kind, if_pos rfl]
        exact sq_rt (by simp [fnRun, evSq, evIf, tstB, evPrim, evOms, evC, evVar, evMov, evAsg, tgN, tgT, tgL, tgsCons, tgsNil, evSetIx, evRet, evRetN, evDrop, evSkip, evCont, evPar, evSeq, evFz, evTru, tru, evAnd, evOr, evNot, evAndV, evOrV, evNotV, evChain, evChain2, evMut, muAppend, muPop, muExtend, muClear, evMeth, rfTy, Dt.ofTy, evMethT, evCall, clr, rfs, bput, backs, evFor, evRng1, evRng2, evItems, items, evComp, M.set, M.blank, blankR, rst, pInt2, pCmp2, pAdd, pMul, pNeg, pIdx, cpo, pLen, pEqN, pInN, sq, pIsN, pNotN, pTuple, pList, pAll, pAny, pSum, pMaxL, pMax2, pMin2, pIntC, pStrI, pJoin, pUpper, pIndex, pIndexT, pIsi, kindT, isSub, pLeA, pRev, pRevS, evSl0, evSlL, evSlH, evSlB, slD, big_s, Q.small, evAug, Dt.isNon, and_assoc, ite_nle, ite_nlt, ite_ile, ite_ilt, ite_nle', ite_nlt', ite_ile', ite_ilt', bif_ile, cr, c1, g1, g2, strR])) rfl
    · intro y hy
      rcases List.mem_cons.mp hy with rfl | hy
      · exact .inr hc
      · exact .inr (hr y hy)
  · have cr := cps_rs rs hr
    have g1 : 2 + rs.length ≤ 1000000 := by omega
    have g2 : rs.length + 1 + 1 ≤ 1000000 := by omega
    have q := sumN_le rs
    refine .inl ⟨kCall, _, rfl, by decide, by decide, by decide, by decide, by decide, strR kCall, strR w :: rs, ?_, strR_ok (by decide), ?_, by simp [strR, sepZ], by simp [strR, sumN] at *; omega, by simp; omega⟩
    · exact fn2 (m1 := ⟨[some (.tup [.str kCall, .str w, .tup (rs.map Row.d)]), some (.str kCall)], S⟩) (by
        rw [kind_of, sq_kind, if_neg (by decide), sq_kind, if_neg (by decide), sq_kind, if_neg (by decide), sq_kind, if_pos rfl]
        exact sq_rt (by simp [fnRun, evSq, evIf, tstB, evPrim, evOms, evC, evVar, evMov, evAsg, tgN, tgT, tgL, tgsCons, tgsNil, evSetIx, evRet, evRetN, evDrop, evSkip, evCont, evPar, evSeq, evFz, evTru, tru, evAnd, evOr, evNot, evAndV, evOrV, evNotV, evChain, evChain2, evMut, muAppend, muPop, muExtend, muClear, evMeth, rfTy, Dt.ofTy, evMethT, evCall, clr, rfs, bput, backs, evFor, evRng1, evRng2, evItems, items, evComp, M.set, M.blank, blankR, rst, pInt2, pCmp2, pAdd, pMul, pNeg, pIdx, cpo, pLen, pEqN, pInN, sq, pIsN, pNotN, pTuple, pList, pAll, pAny, pSum, pMaxL, pMax2, pMin2, pIntC, pStrI, pJoin, pUpper, pIndex, pIndexT, pIsi, kindT, isSub, pLeA, pRev, pRevS, evSl0, evSlL, evSlH, evSlB, slD, big_s, Q.small, evAug, Dt.isNon, and_assoc, ite_nle, ite_nlt, ite_ile, ite_ilt, ite_nle', ite_nlt', ite_ile', ite_ilt', bif_ile, cr, g1, g2, strR])) rfl
    · intro y hy
      rcases List.mem_cons.mp hy with rfl | hy
      · exact strR_ok (by omega)
      · exact .inr (hr y hy)
end My
namespace My
open PySem L2 Q
theorem spread_spec {h : Nat} {r : Row} (e : TmH (h + 1) r) (S : List Ob) : ∃ its : List Row, rSpread [r.d] S = some (.lst true (its.map Row.d), [], S) ∧ (∀ x ∈ its, ItS h x) ∧ catZ its = r.z ∧ sumN its < r.n ∧ its.length ≤ 100 := by
  have rc := (TmH.both _ r e).1
  have one : ∀ w : List Nat, w.length ≤ 20 → r.n = 20 → r.z = w → (∀ x ∈ [strR w], ItS h x) ∧ catZ [strR w] = r.z ∧ sumN [strR w] < r.n ∧ [strR w].length ≤ 100 := fun w hw hn hz =>
    ⟨fun x hx => by rw [List.mem_singleton.mp hx]; exact strR_ok hw, by simp [catZ, strR, hz], by simp [sumN, strR, hn], by simp⟩
  rcases words_spec e S with ⟨k, xs, hd, n1, n2, n3, n4, n5, x, rs, ew, hx, hrs, hz, hn, hl⟩ | ⟨w, hw, rfl⟩ | ⟨w, hw, rfl⟩ | ⟨k, hk, hw, rfl⟩ | ⟨w, hw, rfl⟩ | ⟨s, a, b, hs, ha, hb, rfl⟩
  · obtain ⟨b1, b2, b3⟩ := brk_ok (h := h) (o := [40]) (c := [41]) (by decide) (by decide) hx hrs
    have eb := bracketed_spec true [40] [41] x rs hl (fun y hy => by
      rcases List.mem_cons.mp hy with rfl | hy
      · exact hx.cp
      · exact (hrs y hy).cp) S
    refine ⟨brk [40] [41] x rs, ?_, b1, by rw [b2, hz], by omega, by unfold brk; simp [items2_len]; omega⟩
    rw [hd] at ew rc ⊢
    simp only [List.map_cons, List.map_append, List.map_nil, List.cons_append] at eb ew
    exact fn2 (m1 := ⟨[some (.tup (.str k :: xs)), some (.str k)], S⟩) (by
      rw [kind_of, sq_kind2, if_neg (by simp [n1, n2]), sq_kind, if_neg n3, sq_kind, if_neg n4, sq_kind, if_neg n5]
      exact rt_of (by simp [fnRun, evSq, evIf, tstB, evPrim, evOms, evC, evVar, evMov, evAsg, tgN, tgT, tgL, tgsCons, tgsNil, evSetIx, evRet, evRetN, evDrop, evSkip, evCont, evPar, evSeq, evFz, evTru, tru, evAnd, evOr, evNot, evAndV, evOrV, evNotV, evChain, evChain2, evMut, muAppend, muPop, muExtend, muClear, evMeth, rfTy, Dt.ofTy, evMethT, evCall, clr, rfs, bput, backs, evFor, evRng1, evRng2, evItems, items, evComp, M.set, M.blank, blankR, rst, Q.small, evAug, and_assoc, rc, ew, eb, brk])) rfl
  · obtain ⟨o1, o2, o3, o4⟩ := one w (by omega) rfl rfl
    exact ⟨[strR w], fn2 (m1 := ⟨[some (.tup [.str kName, .str w]), some (.str kName)], S⟩) (by
      rw [kind_of, sq_kind2, if_pos (.inl rfl)]; exact sq_rt (by simp [fnRun, evSq, evIf, tstB, evPrim, evOms, evC, evVar, evMov, evAsg, tgN, tgT, tgL, tgsCons, tgsNil, evSetIx, evRet, evRetN, evDrop, evSkip, evCont, evPar, evSeq, evFz, evTru, tru, evAnd, evOr, evNot, evAndV, evOrV, evNotV, evChain, evChain2, evMut, muAppend, muPop, muExtend, muClear, evMeth, rfTy, Dt.ofTy, evMethT, evCall, clr, rfs, bput, backs, evFor, evRng1, evRng2, evItems, items, evComp, M.set, M.blank, blankR, rst, pInt2, pCmp2, pAdd, pMul, pNeg, pIdx, cpo, pLen, pEqN, pInN, sq, pIsN, pNotN, pTuple, pList, pAll, pAny, pSum, pMaxL, pMax2, pMin2, pIntC, pStrI, pJoin, pUpper, pIndex, pIndexT, pIsi, kindT, isSub, pLeA, pRev, pRevS, evSl0, evSlL, evSlH, evSlB, slD, big_s, Q.small, evAug, Dt.isNon, and_assoc, ite_nle, ite_nlt, ite_ile, ite_ilt, ite_nle', ite_nlt', ite_ile', ite_ilt', bif_ile, strR])) rfl, o1, o2, o3, o4⟩
  · obtain ⟨o1, o2, o3, o4⟩ := one w (by omega) rfl rfl
    exact ⟨[strR w], fn2 (m1 := ⟨[some (.tup [.str kFixed, .str w]), some (.str kFixed)], S⟩) (by
      rw [kind_of, sq_kind2, if_pos (.inr rfl)]; exact sq_rt (by simp [fnRun, evSq, evIf, tstB, evPrim, evOms, evC, evVar, evMov, evAsg, tgN, tgT, tgL, tgsCons, tgsNil, evSetIx, evRet, evRetN, evDrop, evSkip, evCont, evPar, evSeq, evFz, evTru, tru, evAnd, evOr, evNot, evAndV, evOrV, evNotV, evChain, evChain2, evMut, muAppend, muPop, muExtend, muClear, evMeth, rfTy, Dt.ofTy, evMethT, evCall, clr, rfs, bput, backs, evFor, evRng1, evRng2, evItems, items, evComp, M.set, M.blank, blankR, rst, pInt2, pCmp2, pAdd, pMul, pNeg, pIdx, cpo, pLen, pEqN, pInN, sq, pIsN, pNotN, pTuple, pList, pAll, pAny, pSum, pMaxL, pMax2, pMin2, pIntC, pStrI, pJoin, pUpper, pIndex, pIndexT, pIsi, kindT, isSub, pLeA, pRev, pRevS, evSl0, evSlL, evSlH, evSlB, slD, big_s, Q.small, evAug, Dt.isNon, and_assoc, ite_nle, ite_nlt, ite_ile, ite_ilt, ite_nle', ite_nlt', ite_ile', ite_ilt', bif_ile, strR])) rfl, o1, o2, o3, o4⟩
  · obtain ⟨o1, o2, o3, o4⟩ := one (figs k) (by omega) rfl rfl
    have hk' : k.natAbs < 18446744073709551616 := hk
    exact ⟨[strR (figs k)], fn2 (m1 := ⟨[some (.tup [.str kNum, .int k]), some (.str kNum)], S⟩) (by
      rw [kind_of, sq_kind2, if_neg (by decide), sq_kind, if_pos rfl]; exact sq_rt (by simp [fnRun, evSq, evIf, tstB, evPrim, evOms, evC, evVar, evMov, evAsg, tgN, tgT, tgL, tgsCons, tgsNil, evSetIx, evRet, evRetN, evDrop, evSkip, evCont, evPar, evSeq, evFz, evTru, tru, evAnd, evOr, evNot, evAndV, evOrV, evNotV, evChain, evChain2, evMut, muAppend, muPop, muExtend, muClear, evMeth, rfTy, Dt.ofTy, evMethT, evCall, clr, rfs, bput, backs, evFor, evRng1, evRng2, evItems, items, evComp, M.set, M.blank, blankR, rst, pInt2, pCmp2, pAdd, pMul, pNeg, pIdx, cpo, pLen, pEqN, pInN, sq, pIsN, pNotN, pTuple, pList, pAll, pAny, pSum, pMaxL, pMax2, pMin2, pIntC, pStrI, pJoin, pUpper, pIndex, pIndexT, pIsi, kindT, isSub, pLeA, pRev, pRevS, evSl0, evSlL, evSlH, evSlB, slD, big_s, Q.small, evAug, Dt.isNon, and_assoc, ite_nle, ite_nlt, ite_ile, ite_ilt, ite_nle', ite_nlt', ite_ile', ite_ilt', bif_ile, strR, hk'])) rfl, o1, o2, o3, o4⟩
  · obtain ⟨o1, o2, o3, o4⟩ := one (35 :: w) (by simp; omega) rfl rfl
    have hw' : 1 + w.length ≤ 1000000 := by omega
    exact ⟨[strR (35 :: w)], fn2 (m1 := ⟨[some (.tup [.str kCount, .str w]), some (.str kCount)], S⟩) (by
      rw [kind_of, sq_kind2, if_neg (by decide), sq_kind, if_neg (by decide), sq_kind, if_pos rfl]; exact sq_rt (by simp [fnRun, evSq, evIf, tstB, evPrim, evOms, evC, evVar, evMov, evAsg, tgN, tgT, tgL, tgsCons, tgsNil, evSetIx, evRet, evRetN, evDrop, evSkip, evCont, evPar, evSeq, evFz, evTru, tru, evAnd, evOr, evNot, evAndV, evOrV, evNotV, evChain, evChain2, evMut, muAppend, muPop, muExtend, muClear, evMeth, rfTy, Dt.ofTy, evMethT, evCall, clr, rfs, bput, backs, evFor, evRng1, evRng2, evItems, items, evComp, M.set, M.blank, blankR, rst, pInt2, pCmp2, pAdd, pMul, pNeg, pIdx, cpo, pLen, pEqN, pInN, sq, pIsN, pNotN, pTuple, pList, pAll, pAny, pSum, pMaxL, pMax2, pMin2, pIntC, pStrI, pJoin, pUpper, pIndex, pIndexT, pIsi, kindT, isSub, pLeA, pRev, pRevS, evSl0, evSlL, evSlH, evSlB, slD, big_s, Q.small, evAug, Dt.isNon, and_assoc, ite_nle, ite_nlt, ite_ile, ite_ilt, ite_nle', ite_nlt', ite_ile', ite_ilt', bif_ile, strR, hw'])) rfl, o1, o2, o3, o4⟩
  · have hx : ItS h a := .inr ha
    have hrs : ∀ y ∈ [strR s, b], ItS h y := fun y hy => by
      rcases List.mem_cons.mp hy with rfl | hy
      · exact strR_ok (by omega)
      · rw [List.mem_singleton.mp hy]; exact .inr hb
    obtain ⟨b1, b2, b3⟩ := brk_ok (h := h) (o := [91]) (c := [93]) (by decide) (by decide) hx hrs
    have ac := hx.cp
    have bc := (hrs b (by simp)).cp
    have eb := bracketed_spec true [91] [93] a [strR s, b] (by simp) (fun y hy => by
      rcases List.mem_cons.mp hy with rfl | hy
      · exact hx.cp
      · exact (hrs y hy).cp) S
    refine ⟨brk [91] [93] a [strR s, b], ?_, b1, by rw [b2]; simp [sepZ, strR], by rw [b3]; simp [sumN, strR]; omega, by unfold brk; simp [items2_len]⟩
    exact fn2 (m1 := ⟨[some (.tup [.str kOp, .str s, a.d, b.d]), some (.str kOp)], S⟩) (by
      rw [kind_of, sq_kind2, if_neg (by decide), sq_kind, if_neg (by decide), sq_kind, if_neg (by decide), sq_kind, if_pos rfl]
      refine sq_rt ?_
      have eb' : rBracketed [.str [91], .lst true [a.d, .str s, b.d], .str [93]] S = some (.lst true ((brk [91] [93] a [strR s, b]).map Row.d), [], S) := eb
      simp [fnRun, evSq, evIf, tstB, evPrim, evOms, evC, evVar, evMov, evAsg, tgN, tgT, tgL, tgsCons, tgsNil, evSetIx, evRet, evRetN, evDrop, evSkip, evCont, evPar, evSeq, evFz, evTru, tru, evAnd, evOr, evNot, evAndV, evOrV, evNotV, evChain, evChain2, evMut, muAppend, muPop, muExtend, muClear, evMeth, rfTy, Dt.ofTy, evMethT, evCall, clr, rfs, bput, backs, evFor, evRng1, evRng2, evItems, items, evComp, M.set, M.blank, blankR, rst, Q.small, evAug, and_assoc, pIdx, cpo, ac, bc, eb']) rfl
theorem whlN {c : Ev Bool} {b : Es} (I : Nat → M → Prop) (Post : M → Prop)
    (hs : ∀ k m, I k m → (∃ m1, c m = some (false, m1) ∧ Post m1) ∨ ∃ m1 m2 fl k', c m = some (true, m1) ∧ b m1 = some (fl, m2) ∧ (fl = .nx ∨ fl = .ct) ∧ k' < k ∧ I k' m2) :
    ∀ (n k : Nat) (m : M), I k m → k < n → ∃ m', whl c b n m = some (.nx, m') ∧ Post m'
  | 0, k, m, _, h => by omega
  | n + 1, k, m, h, hn => by
    rcases hs k m h with ⟨m1, e1, p⟩ | ⟨m1, m2, fl, k', e1, e2, hf, hk, h2⟩
    · exact ⟨m1, by simp only [whl, e1, Option.bind_eq_bind, Option.bind_some, Bool.false_eq_true, if_false], p⟩
    · obtain ⟨m', e3, p⟩ := whlN I Post hs n k' m2 h2 (by omega)
      refine ⟨m', ?_, p⟩
      rcases hf with rfl | rfl <;> simp only [whl, e1, e2, e3, Option.bind_eq_bind, Option.bind_some, if_true]
theorem isi_str (z : List Nat) : pIsi [.str z, .ty "str"] = some (.bl true) := by simp [fnRun, evSq, evIf, tstB, evPrim, evOms, evC, evVar, evMov, evAsg, tgN, tgT, tgL, tgsCons, tgsNil, evSetIx, evRet, evRetN, evDrop, evSkip, evCont, evPar, evSeq, evFz, evTru, tru, evAnd, evOr, evNot, evAndV, evOrV, evNotV, evChain, evChain2, evMut, muAppend, muPop, muExtend, muClear, evMeth, rfTy, Dt.ofTy, evMethT, evCall, clr, rfs, bput, backs, evFor, evRng1, evRng2, evItems, items, evComp, M.set, M.blank, blankR, rst, pInt2, pCmp2, pAdd, pMul, pNeg, pIdx, cpo, pLen, pEqN, pInN, sq, pIsN, pNotN, pTuple, pList, pAll, pAny, pSum, pMaxL, pMax2, pMin2, pIntC, pStrI, pJoin, pUpper, pIndex, pIndexT, pIsi, kindT, isSub, pLeA, pRev, pRevS, evSl0, evSlL, evSlH, evSlB, slD, big_s, Q.small, evAug, Dt.isNon, and_assoc, ite_nle, ite_nlt, ite_ile, ite_ilt, ite_nle', ite_nlt', ite_ile', ite_ilt', bif_ile]
theorem isi_tup (xs : List Dt) : pIsi [.tup xs, .ty "str"] = some (.bl false) := by simp [fnRun, evSq, evIf, tstB, evPrim, evOms, evC, evVar, evMov, evAsg, tgN, tgT, tgL, tgsCons, tgsNil, evSetIx, evRet, evRetN, evDrop, evSkip, evCont, evPar, evSeq, evFz, evTru, tru, evAnd, evOr, evNot, evAndV, evOrV, evNotV, evChain, evChain2, evMut, muAppend, muPop, muExtend, muClear, evMeth, rfTy, Dt.ofTy, evMethT, evCall, clr, rfs, bput, backs, evFor, evRng1, evRng2, evItems, items, evComp, M.set, M.blank, blankR, rst, pInt2, pCmp2, pAdd, pMul, pNeg, pIdx, cpo, pLen, pEqN, pInN, sq, pIsN, pNotN, pTuple, pList, pAll, pAny, pSum, pMaxL, pMax2, pMin2, pIntC, pStrI, pJoin, pUpper, pIndex, pIndexT, pIsi, kindT, isSub, pLeA, pRev, pRevS, evSl0, evSlL, evSlH, evSlB, slD, big_s, Q.small, evAug, Dt.isNon, and_assoc, ite_nle, ite_nlt, ite_ile, ite_ilt, ite_nle', ite_nlt', ite_ile', ite_ilt', bif_ile]
theorem TmH.tup : ∀ {h : Nat} {r : Row}, TmH h r → ∃ xs, r.d = .tup xs
  | 0, r, e => e.elim
  | h + 1, r, e => by
    unfold TmH at e
    rcases e with ⟨w, _, rfl⟩ | ⟨w, _, rfl⟩ | ⟨k, _, _, rfl⟩ | ⟨w, _, rfl⟩ | ⟨s, a, b, _, _, _, rfl⟩ | ⟨w, rs, _, _, _, rfl⟩ | ⟨w, a, b, _, _, _, rfl⟩ | ⟨w, x, c, a, b, _, _, _, _, _, rfl⟩ | ⟨c, rs, _, _, _, rfl⟩ | ⟨w, rs, _, _, _, rfl⟩ <;> exact ⟨_, rfl⟩
theorem TmH.pos : ∀ {h : Nat} {r : Row}, TmH h r → 1 ≤ r.n
  | 0, r, e => e.elim
  | h + 1, r, e => by
    unfold TmH at e
    rcases e with ⟨w, _, rfl⟩ | ⟨w, _, rfl⟩ | ⟨k, _, _, rfl⟩ | ⟨w, _, rfl⟩ | ⟨s, a, b, _, _, _, rfl⟩ | ⟨w, rs, _, _, _, rfl⟩ | ⟨w, a, b, _, _, _, rfl⟩ | ⟨w, x, c, a, b, _, _, _, _, _, rfl⟩ | ⟨c, rs, _, _, _, rfl⟩ | ⟨w, rs, _, _, _, rfl⟩ <;> simp <;> omega
theorem len_sum : ∀ {js : List Row}, (∀ x ∈ js, ∃ h, ItS h x) → js.length ≤ sumN js
  | [], _ => by simp
  | j :: js, hj => by
    have h1 : 1 ≤ j.n := by
      obtain ⟨h, hx⟩ := hj j List.mem_cons_self
      rcases hx with ⟨_, _, e⟩ | e
      · omega
      · exact e.pos
    have := len_sum fun x hx => hj x (List.mem_cons_of_mem _ hx)
    unfold sumN at *
    simp only [List.map_cons, List.sum_cons, List.length_cons]; omega
theorem sumN_app (a b : List Row) : sumN (a ++ b) = sumN a + sumN b := by simp [sumN]
theorem cat_app (a b : List Row) : catZ (a ++ b) = catZ a ++ catZ b := by simp [catZ]
def IText (r : Row) (S : List Ob) (k : Nat) (m : M) : Prop := ∃ (ws : List (List Nat)) (its : List Row) (y : Option Dt), m = ⟨[some r.d, some (.lst true (ws.map .str)), some (.lst true (its.reverse.map Row.d)), y], S⟩ ∧ (∀ x ∈ its, ∃ h, ItS h x) ∧ ws.flatMap id ++ catZ its = r.z ∧ sumN its = k ∧ ws.length + sumN its ≤ r.n ∧ its.length ≤ sumN its
theorem text_turn {r : Row} {S : List Ob} (hn : r.n ≤ 100000) (k : Nat) (m : M) (hI : IText r S k m) : (∃ m1, evTru (.rf 2) m = some (false, m1) ∧ ∃ (ws : List (List Nat)) (y : Option Dt), m1 = ⟨[some r.d, some (.lst true (ws.map .str)), some (.lst true []), y], S⟩ ∧ ws.flatMap id = r.z ∧ ws.length ≤ r.n) ∨ ∃ m1 m2 fl k', evTru (.rf 2) m = some (true, m1) ∧ bTermText1 m1 = some (fl, m2) ∧ (fl = .nx ∨ fl = .ct) ∧ k' < k ∧ IText r S k' m2 := by
  obtain ⟨ws, its, y, rfl, hi, hz, hk, hb, hil⟩ := hI
  cases its with
  | nil =>
    left
    refine ⟨_, by simp [fnRun, evSq, evIf, tstB, evPrim, evOms, evC, evVar, evMov, evAsg, tgN, tgT, tgL, tgsCons, tgsNil, evSetIx, evRet, evRetN, evDrop, evSkip, evCont, evPar, evSeq, evFz, evTru, tru, evAnd, evOr, evNot, evAndV, evOrV, evNotV, evChain, evChain2, evMut, muAppend, muPop, muExtend, muClear, evMeth, rfTy, Dt.ofTy, evMethT, evCall, clr, rfs, bput, backs, evFor, evRng1, evRng2, evItems, items, evComp, M.set, M.blank, blankR, rst, pInt2, pCmp2, pAdd, pMul, pNeg, pIdx, cpo, pLen, pEqN, pInN, sq, pIsN, pNotN, pTuple, pList, pAll, pAny, pSum, pMaxL, pMax2, pMin2, pIntC, pStrI, pJoin, pUpper, pIndex, pIndexT, pIsi, kindT, isSub, pLeA, pRev, pRevS, evSl0, evSlL, evSlH, evSlB, slD, big_s, Q.small, evAug, Dt.isNon, and_assoc, ite_nle, ite_nlt, ite_ile, ite_ilt, ite_nle', ite_nlt', ite_ile', ite_ilt', bif_ile], ws, y, rfl, by simpa [catZ] using hz, by omega⟩
  | cons x its =>
    right
    obtain ⟨h, hx⟩ := hi x List.mem_cons_self
    have hxc := hx.cp
    have hsum : sumN (x :: its) = x.n + sumN its := by simp [sumN]
    have hcat : catZ (x :: its) = x.z ++ catZ its := by simp [catZ]
    have e0 : (x :: its).reverse.map Row.d = its.reverse.map Row.d ++ [x.d] := by simp
    rw [e0]
    have et : evTru (.rf 2) ⟨[some r.d, some (.lst true (ws.map .str)), some (.lst true (its.reverse.map Row.d ++ [x.d])), y], S⟩ = some (true, ⟨[some r.d, some (.lst true (ws.map .str)), some (.lst true (its.reverse.map Row.d ++ [x.d])), y], S⟩) := by
      simp [fnRun, evSq, evIf, tstB, evPrim, evOms, evC, evVar, evMov, evAsg, tgN, tgT, tgL, tgsCons, tgsNil, evSetIx, evRet, evRetN, evDrop, evSkip, evCont, evPar, evSeq, evFz, evTru, tru, evAnd, evOr, evNot, evAndV, evOrV, evNotV, evChain, evChain2, evMut, muAppend, muPop, muExtend, muClear, evMeth, rfTy, Dt.ofTy, evMethT, evCall, clr, rfs, bput, backs, evFor, evRng1, evRng2, evItems, items, evComp, M.set, M.blank, blankR, rst, pInt2, pCmp2, pAdd, pMul, pNeg, pIdx, cpo, pLen, pEqN, pInN, sq, pIsN, pNotN, pTuple, pList, pAll, pAny, pSum, pMaxL, pMax2, pMin2, pIntC, pStrI, pJoin, pUpper, pIndex, pIndexT, pIsi, kindT, isSub, pLeA, pRev, pRevS, evSl0, evSlL, evSlH, evSlB, slD, big_s, Q.small, evAug, Dt.isNon, and_assoc, ite_nle, ite_nlt, ite_ile, ite_ilt, ite_nle', ite_nlt', ite_ile', ite_ilt', bif_ile]
    have g1 : ws.length ≤ 1000000 := by omega
    have dl : (its.reverse.map Row.d ++ [x.d]).dropLast = its.reverse.map Row.d := by simp
    have gl : (its.reverse.map Row.d ++ [x.d]).getLast? = some x.d := by simp
    rcases hx with ⟨xd, xl, xn⟩ | hx
    · refine ⟨_, ⟨[some r.d, some (.lst true ((ws ++ [x.z]).map .str)), some (.lst true (its.reverse.map Row.d)), some (.str x.z)], S⟩, .nx, sumN its, et, ?_, .inl rfl, by omega, ws ++ [x.z], its, _, rfl, fun z hz => hi z (List.mem_cons_of_mem _ hz), by rw [← hz, hcat]; simp [List.flatMap_append], rfl, by rw [List.length_append, List.length_singleton]; omega, len_sum fun z hz => hi z (List.mem_cons_of_mem _ hz)⟩
      have is1 := isi_str x.z
      generalize its.reverse.map Row.d ++ [x.d] = L at dl gl
      rw [xd] at gl
      simp [bTermText1, fnRun, evSq, evIf, tstB, evPrim, evOms, evC, evVar, evMov, evAsg, tgN, tgT, tgL, tgsCons, tgsNil, evSetIx, evRet, evRetN, evDrop, evSkip, evCont, evPar, evSeq, evFz, evTru, tru, evAnd, evOr, evNot, evAndV, evOrV, evNotV, evChain, evChain2, evMut, muAppend, muPop, muExtend, muClear, evMeth, rfTy, Dt.ofTy, evMethT, evCall, clr, rfs, bput, backs, evFor, evRng1, evRng2, evItems, items, evComp, M.set, M.blank, blankR, rst, Q.small, evAug, and_assoc, dl, gl, is1, g1]
    · obtain ⟨xs, hxs⟩ := hx.tup
      cases h with
      | zero => exact hx.elim
      | succ h =>
        obtain ⟨js, e1, j1, j2, j3, j4⟩ := spread_spec hx S
        have jc : cps (js.map Row.d) = true := cps_of fun d hd => by obtain ⟨z, hz, rfl⟩ := List.mem_map.mp hd; exact (j1 z hz).cp
        have jc2 : cps (js.map Row.d).reverse = true := cps_sub jc fun z hz => List.mem_reverse.mp hz
        have jl : js.length ≤ sumN js := len_sum fun z hz => ⟨h, j1 z hz⟩
        have il : its.length ≤ sumN its := len_sum fun z hz => hi z (List.mem_cons_of_mem _ hz)
        have g2 : its.length + js.length ≤ 1000000 := by simp at hil; omega
        refine ⟨_, ⟨[some r.d, some (.lst true (ws.map .str)), some (.lst true ((js ++ its).reverse.map Row.d)), some x.d], S⟩, .nx, sumN (js ++ its), et, ?_, .inl rfl, by rw [sumN_app]; omega, ws, js ++ its, _, rfl, fun z hz => ?_, by rw [← hz, hcat, cat_app, j2], rfl, by rw [sumN_app]; omega, by rw [sumN_app, List.length_append]; simp at hil; omega⟩
        · have is1 := isi_tup xs
          have e2 : (js ++ its).reverse.map Row.d = its.reverse.map Row.d ++ (js.map Row.d).reverse := by simp
          have g3 : (its.reverse.map Row.d).length + (js.map Row.d).reverse.length ≤ 1000000 := by simp; omega
          rw [e2]
          generalize its.reverse.map Row.d ++ [x.d] = L at dl gl
          generalize its.reverse.map Row.d = L2 at dl g3
          generalize js.map Row.d = L3 at e1 jc jc2 g3
          rw [List.length_reverse] at g3
          rw [← hxs] at is1
          simp [bTermText1, fnRun, evSq, evIf, tstB, evPrim, evOms, evC, evVar, evMov, evAsg, tgN, tgT, tgL, tgsCons, tgsNil, evSetIx, evRet, evRetN, evDrop, evSkip, evCont, evPar, evSeq, evFz, evTru, tru, evAnd, evOr, evNot, evAndV, evOrV, evNotV, evChain, evChain2, evMut, muAppend, muPop, muExtend, muClear, evMeth, rfTy, Dt.ofTy, evMethT, evCall, clr, rfs, bput, backs, evFor, evRng1, evRng2, evItems, items, evComp, M.set, M.blank, blankR, rst, Q.small, evAug, and_assoc, dl, gl, is1, e1, pRev, jc, jc2, g3, hxc]
        · rcases List.mem_append.mp hz with hz | hz
          · exact ⟨h, j1 z hz⟩
          · exact hi z (List.mem_cons_of_mem _ hz)
theorem text_spec {h : Nat} {r : Row} (e : TmH h r) (hn : r.n ≤ 100000) (S : List Ob) : rTermText [r.d] S = some (.str r.z, [], S) := by
  have rc := (TmH.both _ r e).1
  have rl := (TmH.both _ r e).2
  obtain ⟨m', ew, ws, y, rfl, hw, hwl⟩ := whlN (c := evTru (.rf 2)) (b := bTermText1) (IText r S) _ (text_turn hn) FUEL r.n ⟨[some r.d, some (.lst true []), some (.lst true [r.d]), none], S⟩ ⟨[], [r], none, rfl, fun x hx => by rw [List.mem_singleton.mp hx]; exact ⟨h, .inr e⟩, by simp [catZ], by simp [sumN], by simp [sumN], by have := e.pos; simp [sumN]; omega⟩ (by show r.n < 1000000; omega)
  have hs : (ws.map List.length).sum = r.z.length := by rw [← hw]; simp [List.flatMap, List.length_flatten]
  have hs' : (ws.map List.length).sum ≤ 1000000 := by omega
  have hj : jn [] ws = r.z := by rw [← hw]; cases ws <;> simp [jn, List.flatMap]
  simp [rTermText, fnRun, evSq, evIf, tstB, evPrim, evOms, evC, evVar, evMov, evAsg, tgN, tgT, tgL, tgsCons, tgsNil, evSetIx, evRet, evRetN, evDrop, evSkip, evCont, evPar, evSeq, evFz, evTru, tru, evAnd, evOr, evNot, evAndV, evOrV, evNotV, evChain, evChain2, evMut, muAppend, muPop, muExtend, muClear, evMeth, rfTy, Dt.ofTy, evMethT, evCall, clr, rfs, bput, backs, evFor, evRng1, evRng2, evItems, items, evComp, M.set, M.blank, blankR, rst, pInt2, pCmp2, pAdd, pMul, pNeg, pIdx, cpo, pLen, pEqN, pInN, sq, pIsN, pNotN, pTuple, pList, pAll, pAny, pSum, pMaxL, pMax2, pMin2, pIntC, pStrI, pJoin, pUpper, pIndex, pIndexT, pIsi, kindT, isSub, pLeA, pRev, pRevS, evSl0, evSlL, evSlH, evSlB, slD, big_s, Q.small, evAug, Dt.isNon, and_assoc, ite_nle, ite_nlt, ite_ile, ite_ilt, ite_nle', ite_nlt', ite_ile', ite_ilt', bif_ile, rc, ew, hs', hj]
end My
namespace My
open PySem L2 Q
theorem TmH.mono1 : ∀ {h : Nat} {r : Row}, TmH h r → TmH (h + 1) r
  | 0, r, e => e.elim
  | h + 1, r, e => by
    unfold TmH at e ⊢
    rcases e with e | e | e | e | ⟨s, a, b, hs, ha, hb, e⟩ | ⟨w, rs, hw, hr, hl, e⟩ | ⟨w, a, b, hw, ha, hb, e⟩ | ⟨w, x, c, a, b, hw, hx, hc, ha, hb, e⟩ | ⟨c, rs, hc, hr, hl, e⟩ | ⟨w, rs, hw, hr, hl, e⟩
    · exact .inl e
    · exact .inr (.inl e)
    · exact .inr (.inr (.inl e))
    · exact .inr (.inr (.inr (.inl e)))
    · exact .inr (.inr (.inr (.inr (.inl ⟨s, a, b, hs, ha.mono1, hb.mono1, e⟩))))
    · exact .inr (.inr (.inr (.inr (.inr (.inl ⟨w, rs, hw, fun x hx => (hr x hx).mono1, hl, e⟩)))))
    · exact .inr (.inr (.inr (.inr (.inr (.inr (.inl ⟨w, a, b, hw, ha.mono1, hb.mono1, e⟩))))))
    · exact .inr (.inr (.inr (.inr (.inr (.inr (.inr (.inl ⟨w, x, c, a, b, hw, hx, hc.mono1, ha.mono1, hb.mono1, e⟩)))))))
    · exact .inr (.inr (.inr (.inr (.inr (.inr (.inr (.inr (.inl ⟨c, rs, hc.mono1, fun x hx => (hr x hx).mono1, hl, e⟩))))))))
    · exact .inr (.inr (.inr (.inr (.inr (.inr (.inr (.inr (.inr ⟨w, rs, hw, fun x hx => (hr x hx).mono1, hl, e⟩))))))))
theorem TmH.mono {h k : Nat} {r : Row} (e : TmH h r) (hk : h ≤ k) : TmH k r := by
  induction k with
  | zero => have : h = 0 := by omega
            subst this; exact e
  | succ k ih =>
    by_cases c : h = k + 1
    · subst c; exact e
    · exact (ih (by omega)).mono1
structure Pool (N F : List (List Nat)) : Prop where
  n8 : N.length = 8
  f4 : F.length = 4
  nl : ∀ w ∈ N, w.length ≤ 8
  fl : ∀ w ∈ F, w.length ≤ 8
def poD (N F : List (List Nat)) : Dt := .tup [.lst false (N.map .str), .lst false (F.map .str)]
@[simp] theorem poD_cp (N F : List (List Nat)) : (poD N F).cp = true := by simp [poD]
theorem po0 (N F : List (List Nat)) : pIdx [poD N F, .int 0] = some (.lst false (N.map .str)) := by simp [fnRun, evSq, evIf, tstB, evPrim, evOms, evC, evVar, evMov, evAsg, tgN, tgT, tgL, tgsCons, tgsNil, evSetIx, evRet, evRetN, evDrop, evSkip, evCont, evPar, evSeq, evFz, evTru, tru, evAnd, evOr, evNot, evAndV, evOrV, evNotV, evChain, evChain2, evMut, muAppend, muPop, muExtend, muClear, evMeth, rfTy, Dt.ofTy, evMethT, evCall, clr, rfs, bput, backs, evFor, evRng1, evRng2, evItems, items, evComp, M.set, M.blank, blankR, rst, pInt2, pCmp2, pAdd, pMul, pNeg, pIdx, cpo, pLen, pEqN, pInN, sq, pIsN, pNotN, pTuple, pList, pAll, pAny, pSum, pMaxL, pMax2, pMin2, pIntC, pStrI, pJoin, pUpper, pIndex, pIndexT, pIsi, kindT, isSub, pLeA, pRev, pRevS, evSl0, evSlL, evSlH, evSlB, slD, big_s, Q.small, evAug, Dt.isNon, and_assoc, ite_nle, ite_nlt, ite_ile, ite_ilt, ite_nle', ite_nlt', ite_ile', ite_ilt', bif_ile, poD]
theorem po1 (N F : List (List Nat)) : pIdx [poD N F, .int 1] = some (.lst false (F.map .str)) := by simp [fnRun, evSq, evIf, tstB, evPrim, evOms, evC, evVar, evMov, evAsg, tgN, tgT, tgL, tgsCons, tgsNil, evSetIx, evRet, evRetN, evDrop, evSkip, evCont, evPar, evSeq, evFz, evTru, tru, evAnd, evOr, evNot, evAndV, evOrV, evNotV, evChain, evChain2, evMut, muAppend, muPop, muExtend, muClear, evMeth, rfTy, Dt.ofTy, evMethT, evCall, clr, rfs, bput, backs, evFor, evRng1, evRng2, evItems, items, evComp, M.set, M.blank, blankR, rst, pInt2, pCmp2, pAdd, pMul, pNeg, pIdx, cpo, pLen, pEqN, pInN, sq, pIsN, pNotN, pTuple, pList, pAll, pAny, pSum, pMaxL, pMax2, pMin2, pIntC, pStrI, pJoin, pUpper, pIndex, pIndexT, pIsi, kindT, isSub, pLeA, pRev, pRevS, evSl0, evSlL, evSlH, evSlB, slD, big_s, Q.small, evAug, Dt.isNon, and_assoc, ite_nle, ite_nlt, ite_ile, ite_ilt, ite_nle', ite_nlt', ite_ile', ite_ilt', bif_ile, poD]
theorem pick_w {N : List (List Nat)} {r : Int} (h0 : 0 ≤ r) (h1 : r < N.length) (hl : ∀ w ∈ N, w.length ≤ 8) : ∃ w, pIdx [.lst false (N.map .str), .int r] = some (.str w) ∧ w.length ≤ 8 := by
  have hx := List.getElem?_eq_getElem (l := N) (i := r.toNat) (by omega)
  exact ⟨N[r.toNat]'(by omega), by simp [fnRun, evSq, evIf, tstB, evPrim, evOms, evC, evVar, evMov, evAsg, tgN, tgT, tgL, tgsCons, tgsNil, evSetIx, evRet, evRetN, evDrop, evSkip, evCont, evPar, evSeq, evFz, evTru, tru, evAnd, evOr, evNot, evAndV, evOrV, evNotV, evChain, evChain2, evMut, muAppend, muPop, muExtend, muClear, evMeth, rfTy, Dt.ofTy, evMethT, evCall, clr, rfs, bput, backs, evFor, evRng1, evRng2, evItems, items, evComp, M.set, M.blank, blankR, rst, pInt2, pCmp2, pAdd, pMul, pNeg, pIdx, cpo, pLen, pEqN, pInN, sq, pIsN, pNotN, pTuple, pList, pAll, pAny, pSum, pMaxL, pMax2, pMin2, pIntC, pStrI, pJoin, pUpper, pIndex, pIndexT, pIsi, kindT, isSub, pLeA, pRev, pRevS, evSl0, evSlL, evSlH, evSlB, slD, big_s, Q.small, evAug, Dt.isNon, and_assoc, ite_nle, ite_nlt, ite_ile, ite_ilt, ite_nle', ite_nlt', ite_ile', ite_ilt', bif_ile, atI_getI h0 hx], hl _ (List.getElem_mem _)⟩
theorem leaf_spec {N F : List (List Nat)} (P : Pool N F) (a b : Int) (S : List Ob) : ∃ (r : Row) (a' b' : Int), rLLeaf [fdD a b, poD N F] S = some (r.d, [fdD a' b'], S) ∧ TmH 1 r ∧ r.n = 20 := by
  obtain ⟨r1, a1, b1, e1, h1, h1'⟩ := take_spec a b 3 (by decide) (by decide) S
  have n8 := P.n8
  have f4 := P.f4
  by_cases c : r1 = 0
  · subst c
    obtain ⟨r2, a2, b2, e2, h2, h2'⟩ := take_spec a1 b1 4 (by decide) (by decide) S
    obtain ⟨w, ew, hw⟩ := pick_w h2 (by omega : r2 < F.length) P.fl
    have q0 : pEq [.int 0, .int 0] = some (.bl true) := by simp [fnRun, evSq, evIf, tstB, evPrim, evOms, evC, evVar, evMov, evAsg, tgN, tgT, tgL, tgsCons, tgsNil, evSetIx, evRet, evRetN, evDrop, evSkip, evCont, evPar, evSeq, evFz, evTru, tru, evAnd, evOr, evNot, evAndV, evOrV, evNotV, evChain, evChain2, evMut, muAppend, muPop, muExtend, muClear, evMeth, rfTy, Dt.ofTy, evMethT, evCall, clr, rfs, bput, backs, evFor, evRng1, evRng2, evItems, items, evComp, M.set, M.blank, blankR, rst, pInt2, pCmp2, pAdd, pMul, pNeg, pIdx, cpo, pLen, pEqN, pInN, sq, pIsN, pNotN, pTuple, pList, pAll, pAny, pSum, pMaxL, pMax2, pMin2, pIntC, pStrI, pJoin, pUpper, pIndex, pIndexT, pIsi, kindT, isSub, pLeA, pRev, pRevS, evSl0, evSlL, evSlH, evSlB, slD, big_s, Q.small, evAug, Dt.isNon, and_assoc, ite_nle, ite_nlt, ite_ile, ite_ilt, ite_nle', ite_nlt', ite_ile', ite_ilt', bif_ile]
    refine ⟨⟨.tup [.str kFixed, .str w], w, 20⟩, a2, b2, ?_, .inr (.inl ⟨w, hw, rfl⟩), rfl⟩
    simp [rLLeaf, fnRun, evSq, evIf, tstB, evPrim, evOms, evC, evVar, evMov, evAsg, tgN, tgT, tgL, tgsCons, tgsNil, evSetIx, evRet, evRetN, evDrop, evSkip, evCont, evPar, evSeq, evFz, evTru, tru, evAnd, evOr, evNot, evAndV, evOrV, evNotV, evChain, evChain2, evMut, muAppend, muPop, muExtend, muClear, evMeth, rfTy, Dt.ofTy, evMethT, evCall, clr, rfs, bput, backs, evFor, evRng1, evRng2, evItems, items, evComp, M.set, M.blank, blankR, rst, Q.small, evAug, and_assoc, e1, e2, q0, po1, ew]
  · obtain ⟨r2, a2, b2, e2, h2, h2'⟩ := take_spec a1 b1 8 (by decide) (by decide) S
    obtain ⟨w, ew, hw⟩ := pick_w h2 (by omega : r2 < N.length) P.nl
    have q0 : pEq [.int r1, .int 0] = some (.bl false) := by simp [fnRun, evSq, evIf, tstB, evPrim, evOms, evC, evVar, evMov, evAsg, tgN, tgT, tgL, tgsCons, tgsNil, evSetIx, evRet, evRetN, evDrop, evSkip, evCont, evPar, evSeq, evFz, evTru, tru, evAnd, evOr, evNot, evAndV, evOrV, evNotV, evChain, evChain2, evMut, muAppend, muPop, muExtend, muClear, evMeth, rfTy, Dt.ofTy, evMethT, evCall, clr, rfs, bput, backs, evFor, evRng1, evRng2, evItems, items, evComp, M.set, M.blank, blankR, rst, pInt2, pCmp2, pAdd, pMul, pNeg, pIdx, cpo, pLen, pEqN, pInN, sq, pIsN, pNotN, pTuple, pList, pAll, pAny, pSum, pMaxL, pMax2, pMin2, pIntC, pStrI, pJoin, pUpper, pIndex, pIndexT, pIsi, kindT, isSub, pLeA, pRev, pRevS, evSl0, evSlL, evSlH, evSlB, slD, big_s, Q.small, evAug, Dt.isNon, and_assoc, ite_nle, ite_nlt, ite_ile, ite_ilt, ite_nle', ite_nlt', ite_ile', ite_ilt', bif_ile, c]
    refine ⟨⟨.tup [.str kName, .str w], w, 20⟩, a2, b2, ?_, .inl ⟨w, hw, rfl⟩, rfl⟩
    simp [rLLeaf, fnRun, evSq, evIf, tstB, evPrim, evOms, evC, evVar, evMov, evAsg, tgN, tgT, tgL, tgsCons, tgsNil, evSetIx, evRet, evRetN, evDrop, evSkip, evCont, evPar, evSeq, evFz, evTru, tru, evAnd, evOr, evNot, evAndV, evOrV, evNotV, evChain, evChain2, evMut, muAppend, muPop, muExtend, muClear, evMeth, rfTy, Dt.ofTy, evMethT, evCall, clr, rfs, bput, backs, evFor, evRng1, evRng2, evItems, items, evComp, M.set, M.blank, blankR, rst, Q.small, evAug, and_assoc, e1, e2, q0, po0, ew]
theorem ops_at {r : Int} (h0 : 0 ≤ r) (h1 : r < 4) : ∃ s, pIdx [.str [43, 42, 58, 60], .int r] = some (.str s) ∧ s.length ≤ 8 := by
  have : r = 0 ∨ r = 1 ∨ r = 2 ∨ r = 3 := by omega
  rcases this with z | z | z | z
  · subst z; exact ⟨[43], by simp [fnRun, evSq, evIf, tstB, evPrim, evOms, evC, evVar, evMov, evAsg, tgN, tgT, tgL, tgsCons, tgsNil, evSetIx, evRet, evRetN, evDrop, evSkip, evCont, evPar, evSeq, evFz, evTru, tru, evAnd, evOr, evNot, evAndV, evOrV, evNotV, evChain, evChain2, evMut, muAppend, muPop, muExtend, muClear, evMeth, rfTy, Dt.ofTy, evMethT, evCall, clr, rfs, bput, backs, evFor, evRng1, evRng2, evItems, items, evComp, M.set, M.blank, blankR, rst, pInt2, pCmp2, pAdd, pMul, pNeg, pIdx, cpo, pLen, pEqN, pInN, sq, pIsN, pNotN, pTuple, pList, pAll, pAny, pSum, pMaxL, pMax2, pMin2, pIntC, pStrI, pJoin, pUpper, pIndex, pIndexT, pIsi, kindT, isSub, pLeA, pRev, pRevS, evSl0, evSlL, evSlH, evSlB, slD, big_s, Q.small, evAug, Dt.isNon, and_assoc, ite_nle, ite_nlt, ite_ile, ite_ilt, ite_nle', ite_nlt', ite_ile', ite_ilt', bif_ile], by decide⟩
  · subst z; exact ⟨[42], by simp [fnRun, evSq, evIf, tstB, evPrim, evOms, evC, evVar, evMov, evAsg, tgN, tgT, tgL, tgsCons, tgsNil, evSetIx, evRet, evRetN, evDrop, evSkip, evCont, evPar, evSeq, evFz, evTru, tru, evAnd, evOr, evNot, evAndV, evOrV, evNotV, evChain, evChain2, evMut, muAppend, muPop, muExtend, muClear, evMeth, rfTy, Dt.ofTy, evMethT, evCall, clr, rfs, bput, backs, evFor, evRng1, evRng2, evItems, items, evComp, M.set, M.blank, blankR, rst, pInt2, pCmp2, pAdd, pMul, pNeg, pIdx, cpo, pLen, pEqN, pInN, sq, pIsN, pNotN, pTuple, pList, pAll, pAny, pSum, pMaxL, pMax2, pMin2, pIntC, pStrI, pJoin, pUpper, pIndex, pIndexT, pIsi, kindT, isSub, pLeA, pRev, pRevS, evSl0, evSlL, evSlH, evSlB, slD, big_s, Q.small, evAug, Dt.isNon, and_assoc, ite_nle, ite_nlt, ite_ile, ite_ilt, ite_nle', ite_nlt', ite_ile', ite_ilt', bif_ile], by decide⟩
  · subst z; exact ⟨[58], by simp [fnRun, evSq, evIf, tstB, evPrim, evOms, evC, evVar, evMov, evAsg, tgN, tgT, tgL, tgsCons, tgsNil, evSetIx, evRet, evRetN, evDrop, evSkip, evCont, evPar, evSeq, evFz, evTru, tru, evAnd, evOr, evNot, evAndV, evOrV, evNotV, evChain, evChain2, evMut, muAppend, muPop, muExtend, muClear, evMeth, rfTy, Dt.ofTy, evMethT, evCall, clr, rfs, bput, backs, evFor, evRng1, evRng2, evItems, items, evComp, M.set, M.blank, blankR, rst, pInt2, pCmp2, pAdd, pMul, pNeg, pIdx, cpo, pLen, pEqN, pInN, sq, pIsN, pNotN, pTuple, pList, pAll, pAny, pSum, pMaxL, pMax2, pMin2, pIntC, pStrI, pJoin, pUpper, pIndex, pIndexT, pIsi, kindT, isSub, pLeA, pRev, pRevS, evSl0, evSlL, evSlH, evSlB, slD, big_s, Q.small, evAug, Dt.isNon, and_assoc, ite_nle, ite_nlt, ite_ile, ite_ilt, ite_nle', ite_nlt', ite_ile', ite_ilt', bif_ile], by decide⟩
  · subst z; exact ⟨[60], by simp [fnRun, evSq, evIf, tstB, evPrim, evOms, evC, evVar, evMov, evAsg, tgN, tgT, tgL, tgsCons, tgsNil, evSetIx, evRet, evRetN, evDrop, evSkip, evCont, evPar, evSeq, evFz, evTru, tru, evAnd, evOr, evNot, evAndV, evOrV, evNotV, evChain, evChain2, evMut, muAppend, muPop, muExtend, muClear, evMeth, rfTy, Dt.ofTy, evMethT, evCall, clr, rfs, bput, backs, evFor, evRng1, evRng2, evItems, items, evComp, M.set, M.blank, blankR, rst, pInt2, pCmp2, pAdd, pMul, pNeg, pIdx, cpo, pLen, pEqN, pInN, sq, pIsN, pNotN, pTuple, pList, pAll, pAny, pSum, pMaxL, pMax2, pMin2, pIntC, pStrI, pJoin, pUpper, pIndex, pIndexT, pIsi, kindT, isSub, pLeA, pRev, pRevS, evSl0, evSlL, evSlH, evSlB, slD, big_s, Q.small, evAug, Dt.isNon, and_assoc, ite_nle, ite_nlt, ite_ile, ite_ilt, ite_nle', ite_nlt', ite_ile', ite_ilt', bif_ile], by decide⟩
theorem figs_len {k : Int} (h0 : 0 ≤ k) (h1 : k < 1000000) : (figs k).length ≤ 8 := by
  have := cs_num h0 (by omega : k ≤ 999999)
  unfold figs
  unfold cs at this
  omega
theorem fn_rt {N : Nat} {io : List Nat} {body : Es} {ds : List Dt} {S : List Ob} {d : Dt} {m' : M} {bs : List Dt} {ρ0 : List (Option Dt)} (hm : ds.map some ++ List.replicate (N - ds.length) none = ρ0) (h : body ⟨ρ0, S⟩ = some (.rt d, m')) (hb : backs io m'.ρ = some bs) : fnRun N io body ds S = some (d, bs, m'.S) := by
  simp [fnRun, hm, h, hb]
theorem sq_no {t : Ev Bool} {A B : Es} {m m1 : M} (h : t m = some (false, m1)) : evSq (evIf t A evSkip) B m = B m1 := by simp [evSq, evIf, h, evSkip]
theorem sq_yes {t : Ev Bool} {A B : Es} {m m1 : M} (h : t m = some (true, m1)) : evSq (evIf t A evSkip) B m = evSq A B m1 := by simp [evSq, evIf, h]
theorem three_at {x y r : Int} (h0 : 0 ≤ r) (h1 : r < 3) (hx : 0 ≤ x) (hx1 : x < 1000000) (hy : 0 ≤ y) (hy1 : y < 1000000) : ∃ k, pIdx [.lst true [.int x, .int y, .int 999999], .int r] = some (.int k) ∧ 0 ≤ k ∧ k < 1000000 := by
  have : r = 0 ∨ r = 1 ∨ r = 2 := by omega
  rcases this with z | z | z
  · subst z; exact ⟨x, by simp [fnRun, evSq, evIf, tstB, evPrim, evOms, evC, evVar, evMov, evAsg, tgN, tgT, tgL, tgsCons, tgsNil, evSetIx, evRet, evRetN, evDrop, evSkip, evCont, evPar, evSeq, evFz, evTru, tru, evAnd, evOr, evNot, evAndV, evOrV, evNotV, evChain, evChain2, evMut, muAppend, muPop, muExtend, muClear, evMeth, rfTy, Dt.ofTy, evMethT, evCall, clr, rfs, bput, backs, evFor, evRng1, evRng2, evItems, items, evComp, M.set, M.blank, blankR, rst, pInt2, pCmp2, pAdd, pMul, pNeg, pIdx, cpo, pLen, pEqN, pInN, sq, pIsN, pNotN, pTuple, pList, pAll, pAny, pSum, pMaxL, pMax2, pMin2, pIntC, pStrI, pJoin, pUpper, pIndex, pIndexT, pIsi, kindT, isSub, pLeA, pRev, pRevS, evSl0, evSlL, evSlH, evSlB, slD, big_s, Q.small, evAug, Dt.isNon, and_assoc, ite_nle, ite_nlt, ite_ile, ite_ilt, ite_nle', ite_nlt', ite_ile', ite_ilt', bif_ile], hx, hx1⟩
  · subst z; exact ⟨y, by simp [fnRun, evSq, evIf, tstB, evPrim, evOms, evC, evVar, evMov, evAsg, tgN, tgT, tgL, tgsCons, tgsNil, evSetIx, evRet, evRetN, evDrop, evSkip, evCont, evPar, evSeq, evFz, evTru, tru, evAnd, evOr, evNot, evAndV, evOrV, evNotV, evChain, evChain2, evMut, muAppend, muPop, muExtend, muClear, evMeth, rfTy, Dt.ofTy, evMethT, evCall, clr, rfs, bput, backs, evFor, evRng1, evRng2, evItems, items, evComp, M.set, M.blank, blankR, rst, pInt2, pCmp2, pAdd, pMul, pNeg, pIdx, cpo, pLen, pEqN, pInN, sq, pIsN, pNotN, pTuple, pList, pAll, pAny, pSum, pMaxL, pMax2, pMin2, pIntC, pStrI, pJoin, pUpper, pIndex, pIndexT, pIsi, kindT, isSub, pLeA, pRev, pRevS, evSl0, evSlL, evSlH, evSlB, slD, big_s, Q.small, evAug, Dt.isNon, and_assoc, ite_nle, ite_nlt, ite_ile, ite_ilt, ite_nle', ite_nlt', ite_ile', ite_ilt', bif_ile], hy, hy1⟩
  · subst z; exact ⟨999999, by simp [fnRun, evSq, evIf, tstB, evPrim, evOms, evC, evVar, evMov, evAsg, tgN, tgT, tgL, tgsCons, tgsNil, evSetIx, evRet, evRetN, evDrop, evSkip, evCont, evPar, evSeq, evFz, evTru, tru, evAnd, evOr, evNot, evAndV, evOrV, evNotV, evChain, evChain2, evMut, muAppend, muPop, muExtend, muClear, evMeth, rfTy, Dt.ofTy, evMethT, evCall, clr, rfs, bput, backs, evFor, evRng1, evRng2, evItems, items, evComp, M.set, M.blank, blankR, rst, pInt2, pCmp2, pAdd, pMul, pNeg, pIdx, cpo, pLen, pEqN, pInN, sq, pIsN, pNotN, pTuple, pList, pAll, pAny, pSum, pMaxL, pMax2, pMin2, pIntC, pStrI, pJoin, pUpper, pIndex, pIndexT, pIsi, kindT, isSub, pLeA, pRev, pRevS, evSl0, evSlL, evSlH, evSlB, slD, big_s, Q.small, evAug, Dt.isNon, and_assoc, ite_nle, ite_nlt, ite_ile, ite_ilt, ite_nle', ite_nlt', ite_ile', ite_ilt', bif_ile], by decide, by decide⟩
theorem number_end {n : Nat} {a b a1 b1 a2 b2 room r1 : Int} {p d : Dt} {S : List Ob} (e1 : rLTake [fdD a b, .int 5] S = some (.int r1, [fdD a1 b1], S))
    (q12 : evAnd (tstB (evPrim pGt [.rf 3, .ev (evC (.int 2))])) (tstB (evPrim pGt [.rf 2, .ev (evC (.int 2))])) ⟨[some (fdD a1 b1), some p, some (.int room), some (.int r1), none], S⟩ = some (false, ⟨[some (fdD a1 b1), some p, some (.int room), some (.int r1), none], S⟩))
    (h : (evSq (evIf (tstB (evPrim pEq [.rf 3, .ev (evC (.int 0))])) (evRet (evSeq .tup [.ev (evC (.str [99, 111, 117, 110, 116])), .ev (evPrim pIdx [.ev (evPrim pIdx [.rf 1, .ev (evC (.int 0))]), .ev (evCall rLTake 2 [0] [.rf 0, .ev (evC (.int 8))])])])) (evSkip))
    (evRet (evSeq .tup [.ev (evC (.str [110, 117, 109])), .ev (evPrim pIdx [.ev (evSeq (.lst true) [.ev (evFz (evCall rLTake 2 [0] [.rf 0, .ev (evC (.int 12))])), .ev (evFz (evCall rLTake 2 [0] [.rf 0, .ev (evC (.int 1000000))])), .ev (evFz (evC (.int 999999)))]), .ev (evCall rLTake 2 [0] [.rf 0, .ev (evC (.int 3))])])]))) ⟨[some (fdD a1 b1), some p, some (.int room), some (.int r1), none], S⟩ = some (.rt d, ⟨[some (fdD a2 b2), some p, some (.int room), some (.int r1), none], S⟩)) :
    rLNumber (n + 1) [fdD a b, p, .int room] S = some (d, [fdD a2 b2], S) := by
  unfold rLNumber
  have s1 : evAsg (evCall rLTake 2 [0] [.rf 0, .ev (evC (.int 5))]) (tgN 3) ⟨[some (fdD a b), some p, some (.int room), none, none], S⟩ = some (.nx, ⟨[some (fdD a1 b1), some p, some (.int room), some (.int r1), none], S⟩) := by simp [fnRun, evSq, evIf, tstB, evPrim, evOms, evC, evVar, evMov, evAsg, tgN, tgT, tgL, tgsCons, tgsNil, evSetIx, evRet, evRetN, evDrop, evSkip, evCont, evPar, evSeq, evFz, evTru, tru, evAnd, evOr, evNot, evAndV, evOrV, evNotV, evChain, evChain2, evMut, muAppend, muPop, muExtend, muClear, evMeth, rfTy, Dt.ofTy, evMethT, evCall, clr, rfs, bput, backs, evFor, evRng1, evRng2, evItems, items, evComp, M.set, M.blank, blankR, rst, Q.small, evAug, and_assoc, e1]
  refine fn_rt (m' := ⟨[some (fdD a2 b2), some p, some (.int room), some (.int r1), none], S⟩) (ρ0 := [some (fdD a b), some p, some (.int room), none, none]) rfl ?_ rfl
  rw [sq_nx s1, sq_no q12]
  exact h
theorem number_spec {N F : List (List Nat)} (P : Pool N F) (S : List Ob) : ∀ (n : Nat) (room : Int) (a b : Int), 0 ≤ room → room ≤ 60 → room.toNat < n → ∃ (r : Row) (a' b' : Int), rLNumber n [fdD a b, poD N F, .int room] S = some (r.d, [fdD a' b'], S) ∧ TmH n r ∧ r.n ≤ 60 * room.toNat + 20
  | 0, room, a, b, h0, h60, hn => by omega
  | n + 1, room, a, b, h0, h60, hn => by
    obtain ⟨r1, a1, b1, e1, h1, h1'⟩ := take_spec a b 5 (by decide) (by decide) S
    have n8 := P.n8
    by_cases c : 2 < r1 ∧ 2 < room
    · have hd0 : 0 ≤ (room - 1) / 2 := Int.ediv_nonneg (by omega) (by decide)
      obtain ⟨ra, a2, b2, e2, ta, na⟩ := number_spec P S n ((room - 1) / 2) a1 b1 hd0 (by omega) (by omega)
      obtain ⟨r3, a3, b3, e3, h3, h3'⟩ := take_spec a2 b2 4 (by decide) (by decide) S
      obtain ⟨rb, a4, b4, e4, tb, nb⟩ := number_spec P S n ((room - 1) / 2) a3 b3 hd0 (by omega) (by omega)
      obtain ⟨s, es, hs⟩ := ops_at h3 h3'
      have ac := (TmH.both _ _ ta).1
      refine ⟨⟨.tup [.str kOp, .str s, ra.d, rb.d], 91 :: ra.z ++ 32 :: s ++ 32 :: rb.z ++ [93], ra.n + rb.n + 40⟩, a4, b4, ?_, .inr (.inr (.inr (.inr (.inl ⟨s, ra, rb, hs, ta, tb, rfl⟩)))), by simp only; omega⟩
      have q1 : pGt [.int r1, .int 2] = some (.bl true) := by simp [fnRun, evSq, evIf, tstB, evPrim, evOms, evC, evVar, evMov, evAsg, tgN, tgT, tgL, tgsCons, tgsNil, evSetIx, evRet, evRetN, evDrop, evSkip, evCont, evPar, evSeq, evFz, evTru, tru, evAnd, evOr, evNot, evAndV, evOrV, evNotV, evChain, evChain2, evMut, muAppend, muPop, muExtend, muClear, evMeth, rfTy, Dt.ofTy, evMethT, evCall, clr, rfs, bput, backs, evFor, evRng1, evRng2, evItems, items, evComp, M.set, M.blank, blankR, rst, pInt2, pCmp2, pAdd, pMul, pNeg, pIdx, cpo, pLen, pEqN, pInN, sq, pIsN, pNotN, pTuple, pList, pAll, pAny, pSum, pMaxL, pMax2, pMin2, pIntC, pStrI, pJoin, pUpper, pIndex, pIndexT, pIsi, kindT, isSub, pLeA, pRev, pRevS, evSl0, evSlL, evSlH, evSlB, slD, big_s, Q.small, evAug, Dt.isNon, and_assoc, ite_nle, ite_nlt, ite_ile, ite_ilt, ite_nle', ite_nlt', ite_ile', ite_ilt', bif_ile, c.1]
      have q2 : pGt [.int room, .int 2] = some (.bl true) := by simp [fnRun, evSq, evIf, tstB, evPrim, evOms, evC, evVar, evMov, evAsg, tgN, tgT, tgL, tgsCons, tgsNil, evSetIx, evRet, evRetN, evDrop, evSkip, evCont, evPar, evSeq, evFz, evTru, tru, evAnd, evOr, evNot, evAndV, evOrV, evNotV, evChain, evChain2, evMut, muAppend, muPop, muExtend, muClear, evMeth, rfTy, Dt.ofTy, evMethT, evCall, clr, rfs, bput, backs, evFor, evRng1, evRng2, evItems, items, evComp, M.set, M.blank, blankR, rst, pInt2, pCmp2, pAdd, pMul, pNeg, pIdx, cpo, pLen, pEqN, pInN, sq, pIsN, pNotN, pTuple, pList, pAll, pAny, pSum, pMaxL, pMax2, pMin2, pIntC, pStrI, pJoin, pUpper, pIndex, pIndexT, pIsi, kindT, isSub, pLeA, pRev, pRevS, evSl0, evSlL, evSlH, evSlB, slD, big_s, Q.small, evAug, Dt.isNon, and_assoc, ite_nle, ite_nlt, ite_ile, ite_ilt, ite_nle', ite_nlt', ite_ile', ite_ilt', bif_ile, c.2]
      have q3 : pSub [.int room, .int 1] = some (.int (room - 1)) := by simp [fnRun, evSq, evIf, tstB, evPrim, evOms, evC, evVar, evMov, evAsg, tgN, tgT, tgL, tgsCons, tgsNil, evSetIx, evRet, evRetN, evDrop, evSkip, evCont, evPar, evSeq, evFz, evTru, tru, evAnd, evOr, evNot, evAndV, evOrV, evNotV, evChain, evChain2, evMut, muAppend, muPop, muExtend, muClear, evMeth, rfTy, Dt.ofTy, evMethT, evCall, clr, rfs, bput, backs, evFor, evRng1, evRng2, evItems, items, evComp, M.set, M.blank, blankR, rst, pInt2, pCmp2, pAdd, pMul, pNeg, pIdx, cpo, pLen, pEqN, pInN, sq, pIsN, pNotN, pTuple, pList, pAll, pAny, pSum, pMaxL, pMax2, pMin2, pIntC, pStrI, pJoin, pUpper, pIndex, pIndexT, pIsi, kindT, isSub, pLeA, pRev, pRevS, evSl0, evSlL, evSlH, evSlB, slD, big_s, Q.small, evAug, Dt.isNon, and_assoc, ite_nle, ite_nlt, ite_ile, ite_ilt, ite_nle', ite_nlt', ite_ile', ite_ilt', bif_ile]
      have q4 : pDiv [.int (room - 1), .int 2] = some (.int ((room - 1) / 2)) := by simp [fnRun, evSq, evIf, tstB, evPrim, evOms, evC, evVar, evMov, evAsg, tgN, tgT, tgL, tgsCons, tgsNil, evSetIx, evRet, evRetN, evDrop, evSkip, evCont, evPar, evSeq, evFz, evTru, tru, evAnd, evOr, evNot, evAndV, evOrV, evNotV, evChain, evChain2, evMut, muAppend, muPop, muExtend, muClear, evMeth, rfTy, Dt.ofTy, evMethT, evCall, clr, rfs, bput, backs, evFor, evRng1, evRng2, evItems, items, evComp, M.set, M.blank, blankR, rst, pInt2, pCmp2, pAdd, pMul, pNeg, pIdx, cpo, pLen, pEqN, pInN, sq, pIsN, pNotN, pTuple, pList, pAll, pAny, pSum, pMaxL, pMax2, pMin2, pIntC, pStrI, pJoin, pUpper, pIndex, pIndexT, pIsi, kindT, isSub, pLeA, pRev, pRevS, evSl0, evSlL, evSlH, evSlB, slD, big_s, Q.small, evAug, Dt.isNon, and_assoc, ite_nle, ite_nlt, ite_ile, ite_ilt, ite_nle', ite_nlt', ite_ile', ite_ilt', bif_ile]
      simp [rLNumber, fnRun, evSq, evIf, tstB, evPrim, evOms, evC, evVar, evMov, evAsg, tgN, tgT, tgL, tgsCons, tgsNil, evSetIx, evRet, evRetN, evDrop, evSkip, evCont, evPar, evSeq, evFz, evTru, tru, evAnd, evOr, evNot, evAndV, evOrV, evNotV, evChain, evChain2, evMut, muAppend, muPop, muExtend, muClear, evMeth, rfTy, Dt.ofTy, evMethT, evCall, clr, rfs, bput, backs, evFor, evRng1, evRng2, evItems, items, evComp, M.set, M.blank, blankR, rst, Q.small, evAug, and_assoc, e1, e2, e3, e4, q1, q2, q3, q4, es, ac]
    · have q12 : evAnd (tstB (evPrim pGt [.rf 3, .ev (evC (.int 2))])) (tstB (evPrim pGt [.rf 2, .ev (evC (.int 2))])) ⟨[some (fdD a1 b1), some (poD N F), some (.int room), some (.int r1), none], S⟩ = some (false, ⟨[some (fdD a1 b1), some (poD N F), some (.int room), some (.int r1), none], S⟩) := by
        by_cases c1 : 2 < r1
        · have c2 : ¬ 2 < room := fun z => c ⟨c1, z⟩
          simp [fnRun, evSq, evIf, tstB, evPrim, evOms, evC, evVar, evMov, evAsg, tgN, tgT, tgL, tgsCons, tgsNil, evSetIx, evRet, evRetN, evDrop, evSkip, evCont, evPar, evSeq, evFz, evTru, tru, evAnd, evOr, evNot, evAndV, evOrV, evNotV, evChain, evChain2, evMut, muAppend, muPop, muExtend, muClear, evMeth, rfTy, Dt.ofTy, evMethT, evCall, clr, rfs, bput, backs, evFor, evRng1, evRng2, evItems, items, evComp, M.set, M.blank, blankR, rst, pInt2, pCmp2, pAdd, pMul, pNeg, pIdx, cpo, pLen, pEqN, pInN, sq, pIsN, pNotN, pTuple, pList, pAll, pAny, pSum, pMaxL, pMax2, pMin2, pIntC, pStrI, pJoin, pUpper, pIndex, pIndexT, pIsi, kindT, isSub, pLeA, pRev, pRevS, evSl0, evSlL, evSlH, evSlB, slD, big_s, Q.small, evAug, Dt.isNon, and_assoc, ite_nle, ite_nlt, ite_ile, ite_ilt, ite_nle', ite_nlt', ite_ile', ite_ilt', bif_ile, c1, c2]
        · simp [fnRun, evSq, evIf, tstB, evPrim, evOms, evC, evVar, evMov, evAsg, tgN, tgT, tgL, tgsCons, tgsNil, evSetIx, evRet, evRetN, evDrop, evSkip, evCont, evPar, evSeq, evFz, evTru, tru, evAnd, evOr, evNot, evAndV, evOrV, evNotV, evChain, evChain2, evMut, muAppend, muPop, muExtend, muClear, evMeth, rfTy, Dt.ofTy, evMethT, evCall, clr, rfs, bput, backs, evFor, evRng1, evRng2, evItems, items, evComp, M.set, M.blank, blankR, rst, pInt2, pCmp2, pAdd, pMul, pNeg, pIdx, cpo, pLen, pEqN, pInN, sq, pIsN, pNotN, pTuple, pList, pAll, pAny, pSum, pMaxL, pMax2, pMin2, pIntC, pStrI, pJoin, pUpper, pIndex, pIndexT, pIsi, kindT, isSub, pLeA, pRev, pRevS, evSl0, evSlL, evSlH, evSlB, slD, big_s, Q.small, evAug, Dt.isNon, and_assoc, ite_nle, ite_nlt, ite_ile, ite_ilt, ite_nle', ite_nlt', ite_ile', ite_ilt', bif_ile, c1]
      by_cases c0 : r1 = 0
      · subst c0
        obtain ⟨r2, a2, b2, e2, h2, h2'⟩ := take_spec a1 b1 8 (by decide) (by decide) S
        obtain ⟨w, ew, hw⟩ := pick_w h2 (by omega : r2 < N.length) P.nl
        have q0 : pEq [.int 0, .int 0] = some (.bl true) := by simp [fnRun, evSq, evIf, tstB, evPrim, evOms, evC, evVar, evMov, evAsg, tgN, tgT, tgL, tgsCons, tgsNil, evSetIx, evRet, evRetN, evDrop, evSkip, evCont, evPar, evSeq, evFz, evTru, tru, evAnd, evOr, evNot, evAndV, evOrV, evNotV, evChain, evChain2, evMut, muAppend, muPop, muExtend, muClear, evMeth, rfTy, Dt.ofTy, evMethT, evCall, clr, rfs, bput, backs, evFor, evRng1, evRng2, evItems, items, evComp, M.set, M.blank, blankR, rst, pInt2, pCmp2, pAdd, pMul, pNeg, pIdx, cpo, pLen, pEqN, pInN, sq, pIsN, pNotN, pTuple, pList, pAll, pAny, pSum, pMaxL, pMax2, pMin2, pIntC, pStrI, pJoin, pUpper, pIndex, pIndexT, pIsi, kindT, isSub, pLeA, pRev, pRevS, evSl0, evSlL, evSlH, evSlB, slD, big_s, Q.small, evAug, Dt.isNon, and_assoc, ite_nle, ite_nlt, ite_ile, ite_ilt, ite_nle', ite_nlt', ite_ile', ite_ilt', bif_ile]
        refine ⟨⟨.tup [.str kCount, .str w], 35 :: w, 20⟩, a2, b2, ?_, .inr (.inr (.inr (.inl ⟨w, hw, rfl⟩))), by simp only; omega⟩
        exact number_end e1 q12 (by simp [fnRun, evSq, evIf, tstB, evPrim, evOms, evC, evVar, evMov, evAsg, tgN, tgT, tgL, tgsCons, tgsNil, evSetIx, evRet, evRetN, evDrop, evSkip, evCont, evPar, evSeq, evFz, evTru, tru, evAnd, evOr, evNot, evAndV, evOrV, evNotV, evChain, evChain2, evMut, muAppend, muPop, muExtend, muClear, evMeth, rfTy, Dt.ofTy, evMethT, evCall, clr, rfs, bput, backs, evFor, evRng1, evRng2, evItems, items, evComp, M.set, M.blank, blankR, rst, Q.small, evAug, and_assoc, e2, q0, po0, ew])
      · obtain ⟨r2, a2, b2, e2, h2, h2'⟩ := take_spec a1 b1 12 (by decide) (by decide) S
        obtain ⟨r3, a3, b3, e3, h3, h3'⟩ := take_spec a2 b2 1000000 (by decide) (by decide) S
        obtain ⟨r4, a4, b4, e4, h4, h4'⟩ := take_spec a3 b3 3 (by decide) (by decide) S
        have q0 : pEq [.int r1, .int 0] = some (.bl false) := by simp [fnRun, evSq, evIf, tstB, evPrim, evOms, evC, evVar, evMov, evAsg, tgN, tgT, tgL, tgsCons, tgsNil, evSetIx, evRet, evRetN, evDrop, evSkip, evCont, evPar, evSeq, evFz, evTru, tru, evAnd, evOr, evNot, evAndV, evOrV, evNotV, evChain, evChain2, evMut, muAppend, muPop, muExtend, muClear, evMeth, rfTy, Dt.ofTy, evMethT, evCall, clr, rfs, bput, backs, evFor, evRng1, evRng2, evItems, items, evComp, M.set, M.blank, blankR, rst, pInt2, pCmp2, pAdd, pMul, pNeg, pIdx, cpo, pLen, pEqN, pInN, sq, pIsN, pNotN, pTuple, pList, pAll, pAny, pSum, pMaxL, pMax2, pMin2, pIntC, pStrI, pJoin, pUpper, pIndex, pIndexT, pIsi, kindT, isSub, pLeA, pRev, pRevS, evSl0, evSlL, evSlH, evSlB, slD, big_s, Q.small, evAug, Dt.isNon, and_assoc, ite_nle, ite_nlt, ite_ile, ite_ilt, ite_nle', ite_nlt', ite_ile', ite_ilt', bif_ile, c0]
        obtain ⟨k, ek, hk0, hk1⟩ := three_at (x := r2) (y := r3) h4 h4' h2 (by omega) h3 h3'
        refine ⟨⟨.tup [.str kNum, .int k], figs k, 20⟩, a4, b4, ?_, .inr (.inr (.inl ⟨k, by omega, figs_len hk0 hk1, rfl⟩)), by simp only; omega⟩
        exact number_end e1 q12 (by simp [fnRun, evSq, evIf, tstB, evPrim, evOms, evC, evVar, evMov, evAsg, tgN, tgT, tgL, tgsCons, tgsNil, evSetIx, evRet, evRetN, evDrop, evSkip, evCont, evPar, evSeq, evFz, evTru, tru, evAnd, evOr, evNot, evAndV, evOrV, evNotV, evChain, evChain2, evMut, muAppend, muPop, muExtend, muClear, evMeth, rfTy, Dt.ofTy, evMethT, evCall, clr, rfs, bput, backs, evFor, evRng1, evRng2, evItems, items, evComp, M.set, M.blank, blankR, rst, Q.small, evAug, and_assoc, e2, e3, e4, q0, ek])
end My
namespace My
open PySem L2 Q
structure DTerm (N F : List (List Nat)) (S : List Ob) (n : Nat) : Prop where
  h : ∀ (room down a b : Int), 0 ≤ room → room ≤ 60 → 0 ≤ down → down ≤ 9 → 2 * down.toNat + 1 ≤ n → ∃ (r : Row) (a' b' : Int), rLTerm n [fdD a b, poD N F, .int room, .int down] S = some (r.d, [fdD a' b'], S) ∧ TmH (down.toNat + 71) r ∧ r.n ≤ 200 * room.toNat + 20
structure DRow (N F : List (List Nat)) (S : List Ob) (n : Nat) : Prop where
  h : ∀ (room down many a b : Int), 0 ≤ room → room ≤ 60 → 1 ≤ down → down ≤ 9 → 1 ≤ many → many ≤ 4 → 2 * down.toNat ≤ n → ∃ (rs : List Row) (a' b' : Int), rLRow n [fdD a b, poD N F, .int room, .int down, .int many] S = some (.tup (rs.map Row.d), [fdD a' b'], S) ∧ (rs.length : Int) = many ∧ ∀ x ∈ rs, TmH (down.toNat + 70) x ∧ x.n ≤ 200 * (room / many).toNat + 20
structure DArgs (N F : List (List Nat)) (S : List Ob) (n : Nat) : Prop where
  h : ∀ (room down a b : Int), 0 ≤ room → room ≤ 60 → 1 ≤ down → down ≤ 9 → 2 * down.toNat ≤ n → ∃ (rs : List Row) (a' b' : Int), rLArgs n [fdD a b, poD N F, .int room, .int down] S = some (.tup (rs.map Row.d), [fdD a' b'], S) ∧ rs.length ≤ 3 ∧ (∀ x ∈ rs, TmH (down.toNat + 70) x) ∧ rsN rs ≤ 200 * room.toNat + 100
theorem row_step {N F : List (List Nat)} {S : List Ob} {n : Nat} (T : DTerm N F S n) : DRow N F S (n + 1) := ⟨by
  intro room down many a b h0 h60 d1 d9 m1 m4 hn
  have hdiv : 0 ≤ room / many := Int.ediv_nonneg h0 (by omega)
  have hdle : room / many ≤ 60 := Int.le_trans (Int.ediv_le_self _ h0) h60
  obtain ⟨rs, m, e, ⟨a', b', y, rfl⟩, hl, hr⟩ := compR0 (js := [5]) (tg := tgN 5) (f := cLRow1 (rLTerm n)) Row.d many.toNat (fun _ m => ∃ (a b : Int) (y : Option Dt), m = ⟨[some (fdD a b), some (poD N F), some (.int room), some (.int down), some (.int many), y], S⟩) (fun _ x => TmH (down.toNat + 70) x ∧ x.n ≤ 200 * (room / many).toNat + 20)
    ⟨[some (fdD a b), some (poD N F), some (.int room), some (.int down), some (.int many), none], S⟩ ⟨a, b, none, rfl⟩ (by
      rintro i m hi ⟨a, b, y, rfl⟩
      obtain ⟨r, a', b', e, t, hb⟩ := T.h (room / many) (down - 1) a b hdiv hdle (by omega) (by omega) (by omega)
      have q1 : pMax2 [.int many, .int 1] = some (.int many) := by
        simp [pMax2]; omega
      have q2 : pDiv [.int room, .int many] = some (.int (room / many)) := by
        have g1 : 0 < many := by omega
        have g2 : many < 1073741824 := by omega
        simp [fnRun, evSq, evIf, tstB, evPrim, evOms, evC, evVar, evMov, evAsg, tgN, tgT, tgL, tgsCons, tgsNil, evSetIx, evRet, evRetN, evDrop, evSkip, evCont, evPar, evSeq, evFz, evTru, tru, evAnd, evOr, evNot, evAndV, evOrV, evNotV, evChain, evChain2, evMut, muAppend, muPop, muExtend, muClear, evMeth, rfTy, Dt.ofTy, evMethT, evCall, clr, rfs, bput, backs, evFor, evRng1, evRng2, evItems, items, evComp, M.set, M.blank, blankR, rst, pInt2, pCmp2, pAdd, pMul, pNeg, pIdx, cpo, pLen, pEqN, pInN, sq, pIsN, pNotN, pTuple, pList, pAll, pAny, pSum, pMaxL, pMax2, pMin2, pIntC, pStrI, pJoin, pUpper, pIndex, pIndexT, pIsi, kindT, isSub, pLeA, pRev, pRevS, evSl0, evSlL, evSlH, evSlB, slD, big_s, Q.small, evAug, Dt.isNon, and_assoc, ite_nle, ite_nlt, ite_ile, ite_ilt, ite_nle', ite_nlt', ite_ile', ite_ilt', bif_ile, g1, g2]
      have q3 : pSub [.int down, .int 1] = some (.int (down - 1)) := by simp [fnRun, evSq, evIf, tstB, evPrim, evOms, evC, evVar, evMov, evAsg, tgN, tgT, tgL, tgsCons, tgsNil, evSetIx, evRet, evRetN, evDrop, evSkip, evCont, evPar, evSeq, evFz, evTru, tru, evAnd, evOr, evNot, evAndV, evOrV, evNotV, evChain, evChain2, evMut, muAppend, muPop, muExtend, muClear, evMeth, rfTy, Dt.ofTy, evMethT, evCall, clr, rfs, bput, backs, evFor, evRng1, evRng2, evItems, items, evComp, M.set, M.blank, blankR, rst, pInt2, pCmp2, pAdd, pMul, pNeg, pIdx, cpo, pLen, pEqN, pInN, sq, pIsN, pNotN, pTuple, pList, pAll, pAny, pSum, pMaxL, pMax2, pMin2, pIntC, pStrI, pJoin, pUpper, pIndex, pIndexT, pIsi, kindT, isSub, pLeA, pRev, pRevS, evSl0, evSlL, evSlH, evSlB, slD, big_s, Q.small, evAug, Dt.isNon, and_assoc, ite_nle, ite_nlt, ite_ile, ite_ilt, ite_nle', ite_nlt', ite_ile', ite_ilt', bif_ile]
      refine ⟨r, ⟨[some (fdD a' b'), some (poD N F), some (.int room), some (.int down), some (.int many), some (.int i)], S⟩, ?_, ⟨a', b', _, rfl⟩, t.mono (by omega), hb⟩
      simp [cLRow1, fnRun, evSq, evIf, tstB, evPrim, evOms, evC, evVar, evMov, evAsg, tgN, tgT, tgL, tgsCons, tgsNil, evSetIx, evRet, evRetN, evDrop, evSkip, evCont, evPar, evSeq, evFz, evTru, tru, evAnd, evOr, evNot, evAndV, evOrV, evNotV, evChain, evChain2, evMut, muAppend, muPop, muExtend, muClear, evMeth, rfTy, Dt.ofTy, evMethT, evCall, clr, rfs, bput, backs, evFor, evRng1, evRng2, evItems, items, evComp, M.set, M.blank, blankR, rst, Q.small, evAug, and_assoc, q1, q2, q3, e])
  refine ⟨rs, a', b', ?_, by omega, all_get hr⟩
  have cr : cps (rs.map Row.d) = true := cps_of fun d hd => by obtain ⟨x, hx, rfl⟩ := List.mem_map.mp hd; exact (TmH.both _ x (all_get hr x hx).1).1
  have g1 : -1000000000 ≤ many ∧ many ≤ 1000000000 := by omega
  have g2 : many.toNat ≤ 1000000 := by omega
  simp [rLRow, fnRun, evSq, evIf, tstB, evPrim, evOms, evC, evVar, evMov, evAsg, tgN, tgT, tgL, tgsCons, tgsNil, evSetIx, evRet, evRetN, evDrop, evSkip, evCont, evPar, evSeq, evFz, evTru, tru, evAnd, evOr, evNot, evAndV, evOrV, evNotV, evChain, evChain2, evMut, muAppend, muPop, muExtend, muClear, evMeth, rfTy, Dt.ofTy, evMethT, evCall, clr, rfs, bput, backs, evFor, evRng1, evRng2, evItems, items, evComp, M.set, M.blank, blankR, rst, Q.small, evAug, and_assoc, pTuple, e, cr, g1, g2]⟩
theorem rsN_app (a b : List Row) : rsN (a ++ b) = rsN a + rsN b := by simp [rsN]
theorem args_step {N F : List (List Nat)} (P : Pool N F) {S : List Ob} {n : Nat} (T : DTerm N F S n) : DArgs N F S (n + 1) := ⟨by
  intro room down a b h0 h60 d1 d9 hn
  obtain ⟨r1, a1, b1, e1, h1, h1'⟩ := take_spec a b 4 (by decide) (by decide) S
  have q1 : pMin2 [.int r1, .int room] = some (.int (min r1 room)) := by
    simp [pMin2]; omega
  generalize hmany : min r1 room = many at q1
  have m0 : 0 ≤ many := by omega
  have m3 : many ≤ 3 := by omega
  obtain ⟨m, e, rs, a', b', y, rfl, hl, hr, hs⟩ := forR0 (tg := tgN 6) (b := bLArgs1 (rLTerm n)) many.toNat (fun i m => ∃ (rs : List Row) (a b : Int) (y : Option Dt), m = ⟨[some (fdD a b), some (poD N F), some (.int room), some (.int down), some (.int many), some (.lst true (rs.map Row.d)), y], S⟩ ∧ rs.length = i ∧ (∀ x ∈ rs, TmH (down.toNat + 70) x) ∧ rsN rs ≤ i * (200 * (room / many).toNat + 22))
    ⟨[some (fdD a1 b1), some (poD N F), some (.int room), some (.int down), some (.int many), some (.lst true []), none], S⟩ ⟨[], a1, b1, none, rfl, rfl, fun x hx => by simp at hx, by simp [rsN]⟩ (by
      rintro i m hi ⟨rs, a, b, y, rfl, hl, hr, hs⟩
      have mp : 0 < many := by omega
      have hdiv : 0 ≤ room / many := Int.ediv_nonneg h0 (by omega)
      have hdle : room / many ≤ 60 := Int.le_trans (Int.ediv_le_self _ h0) h60
      have g1 : rs.length ≤ 1000000 := by omega
      have q2 : pDiv [.int room, .int many] = some (.int (room / many)) := by
        have g2 : many < 1073741824 := by omega
        simp [fnRun, evSq, evIf, tstB, evPrim, evOms, evC, evVar, evMov, evAsg, tgN, tgT, tgL, tgsCons, tgsNil, evSetIx, evRet, evRetN, evDrop, evSkip, evCont, evPar, evSeq, evFz, evTru, tru, evAnd, evOr, evNot, evAndV, evOrV, evNotV, evChain, evChain2, evMut, muAppend, muPop, muExtend, muClear, evMeth, rfTy, Dt.ofTy, evMethT, evCall, clr, rfs, bput, backs, evFor, evRng1, evRng2, evItems, items, evComp, M.set, M.blank, blankR, rst, pInt2, pCmp2, pAdd, pMul, pNeg, pIdx, cpo, pLen, pEqN, pInN, sq, pIsN, pNotN, pTuple, pList, pAll, pAny, pSum, pMaxL, pMax2, pMin2, pIntC, pStrI, pJoin, pUpper, pIndex, pIndexT, pIsi, kindT, isSub, pLeA, pRev, pRevS, evSl0, evSlL, evSlH, evSlB, slD, big_s, Q.small, evAug, Dt.isNon, and_assoc, ite_nle, ite_nlt, ite_ile, ite_ilt, ite_nle', ite_nlt', ite_ile', ite_ilt', bif_ile, mp, g2]
      have q3 : pSub [.int down, .int 1] = some (.int (down - 1)) := by simp [fnRun, evSq, evIf, tstB, evPrim, evOms, evC, evVar, evMov, evAsg, tgN, tgT, tgL, tgsCons, tgsNil, evSetIx, evRet, evRetN, evDrop, evSkip, evCont, evPar, evSeq, evFz, evTru, tru, evAnd, evOr, evNot, evAndV, evOrV, evNotV, evChain, evChain2, evMut, muAppend, muPop, muExtend, muClear, evMeth, rfTy, Dt.ofTy, evMethT, evCall, clr, rfs, bput, backs, evFor, evRng1, evRng2, evItems, items, evComp, M.set, M.blank, blankR, rst, pInt2, pCmp2, pAdd, pMul, pNeg, pIdx, cpo, pLen, pEqN, pInN, sq, pIsN, pNotN, pTuple, pList, pAll, pAny, pSum, pMaxL, pMax2, pMin2, pIntC, pStrI, pJoin, pUpper, pIndex, pIndexT, pIsi, kindT, isSub, pLeA, pRev, pRevS, evSl0, evSlL, evSlH, evSlB, slD, big_s, Q.small, evAug, Dt.isNon, and_assoc, ite_nle, ite_nlt, ite_ile, ite_ilt, ite_nle', ite_nlt', ite_ile', ite_ilt', bif_ile]
      obtain ⟨r2, a2, b2, e2, h2, h2'⟩ := take_spec a b 2 (by decide) (by decide) S
      have fin : ∀ (x : Row) (a b : Int), TmH (down.toNat + 70) x → x.n ≤ 200 * (room / many).toNat + 20 → ∃ (rs' : List Row) (a' b' : Int) (y' : Option Dt), (⟨[some (fdD a b), some (poD N F), some (.int room), some (.int down), some (.int many), some (.lst true (rs.map Row.d ++ [x.d])), some (.int i)], S⟩ : M) = ⟨[some (fdD a' b'), some (poD N F), some (.int room), some (.int down), some (.int many), some (.lst true (rs'.map Row.d)), y'], S⟩ ∧ rs'.length = i + 1 ∧ (∀ x ∈ rs', TmH (down.toNat + 70) x) ∧ rsN rs' ≤ (i + 1) * (200 * (room / many).toNat + 22) := fun x a b tx nx => by
        refine ⟨rs ++ [x], a, b, _, by rw [List.map_append]; rfl, by simp [hl], fun z hz => ?_, ?_⟩
        · rcases List.mem_append.mp hz with hz | hz
          · exact hr z hz
          · rw [List.mem_singleton.mp hz]; exact tx
        · rw [rsN_app, Nat.add_mul]
          have : rsN [x] = x.n + 2 := by simp [rsN]
          omega
      by_cases c : r2 = 0
      · subst c
        have q0 : pEq [.int 0, .int 0] = some (.bl true) := by simp [fnRun, evSq, evIf, tstB, evPrim, evOms, evC, evVar, evMov, evAsg, tgN, tgT, tgL, tgsCons, tgsNil, evSetIx, evRet, evRetN, evDrop, evSkip, evCont, evPar, evSeq, evFz, evTru, tru, evAnd, evOr, evNot, evAndV, evOrV, evNotV, evChain, evChain2, evMut, muAppend, muPop, muExtend, muClear, evMeth, rfTy, Dt.ofTy, evMethT, evCall, clr, rfs, bput, backs, evFor, evRng1, evRng2, evItems, items, evComp, M.set, M.blank, blankR, rst, pInt2, pCmp2, pAdd, pMul, pNeg, pIdx, cpo, pLen, pEqN, pInN, sq, pIsN, pNotN, pTuple, pList, pAll, pAny, pSum, pMaxL, pMax2, pMin2, pIntC, pStrI, pJoin, pUpper, pIndex, pIndexT, pIsi, kindT, isSub, pLeA, pRev, pRevS, evSl0, evSlL, evSlH, evSlB, slD, big_s, Q.small, evAug, Dt.isNon, and_assoc, ite_nle, ite_nlt, ite_ile, ite_ilt, ite_nle', ite_nlt', ite_ile', ite_ilt', bif_ile]
        have q4 : pMin2 [.int 7, .int (room / many)] = some (.int (min 7 (room / many))) := by
          simp [pMin2]; omega
        obtain ⟨x, a3, b3, e3, t3, n3⟩ := number_spec P S 70 (min 7 (room / many)) a2 b2 (by omega) (by omega) (by omega)
        refine ⟨.nx, _, ?_, .inl rfl, fin x a3 b3 (t3.mono (by omega)) (by omega)⟩
        simp [bLArgs1, fnRun, evSq, evIf, tstB, evPrim, evOms, evC, evVar, evMov, evAsg, tgN, tgT, tgL, tgsCons, tgsNil, evSetIx, evRet, evRetN, evDrop, evSkip, evCont, evPar, evSeq, evFz, evTru, tru, evAnd, evOr, evNot, evAndV, evOrV, evNotV, evChain, evChain2, evMut, muAppend, muPop, muExtend, muClear, evMeth, rfTy, Dt.ofTy, evMethT, evCall, clr, rfs, bput, backs, evFor, evRng1, evRng2, evItems, items, evComp, M.set, M.blank, blankR, rst, Q.small, evAug, and_assoc, e2, q0, q2, q4, e3, g1]
      · have q0 : pEq [.int r2, .int 0] = some (.bl false) := by simp [fnRun, evSq, evIf, tstB, evPrim, evOms, evC, evVar, evMov, evAsg, tgN, tgT, tgL, tgsCons, tgsNil, evSetIx, evRet, evRetN, evDrop, evSkip, evCont, evPar, evSeq, evFz, evTru, tru, evAnd, evOr, evNot, evAndV, evOrV, evNotV, evChain, evChain2, evMut, muAppend, muPop, muExtend, muClear, evMeth, rfTy, Dt.ofTy, evMethT, evCall, clr, rfs, bput, backs, evFor, evRng1, evRng2, evItems, items, evComp, M.set, M.blank, blankR, rst, pInt2, pCmp2, pAdd, pMul, pNeg, pIdx, cpo, pLen, pEqN, pInN, sq, pIsN, pNotN, pTuple, pList, pAll, pAny, pSum, pMaxL, pMax2, pMin2, pIntC, pStrI, pJoin, pUpper, pIndex, pIndexT, pIsi, kindT, isSub, pLeA, pRev, pRevS, evSl0, evSlL, evSlH, evSlB, slD, big_s, Q.small, evAug, Dt.isNon, and_assoc, ite_nle, ite_nlt, ite_ile, ite_ilt, ite_nle', ite_nlt', ite_ile', ite_ilt', bif_ile, c]
        obtain ⟨x, a3, b3, e3, t3, n3⟩ := T.h (room / many) (down - 1) a2 b2 hdiv hdle (by omega) (by omega) (by omega)
        refine ⟨.nx, _, ?_, .inl rfl, fin x a3 b3 (t3.mono (by omega)) n3⟩
        simp [bLArgs1, fnRun, evSq, evIf, tstB, evPrim, evOms, evC, evVar, evMov, evAsg, tgN, tgT, tgL, tgsCons, tgsNil, evSetIx, evRet, evRetN, evDrop, evSkip, evCont, evPar, evSeq, evFz, evTru, tru, evAnd, evOr, evNot, evAndV, evOrV, evNotV, evChain, evChain2, evMut, muAppend, muPop, muExtend, muClear, evMeth, rfTy, Dt.ofTy, evMethT, evCall, clr, rfs, bput, backs, evFor, evRng1, evRng2, evItems, items, evComp, M.set, M.blank, blankR, rst, Q.small, evAug, and_assoc, e2, q0, q2, q3, e3, g1])
  have cr : cps (rs.map Row.d) = true := cps_of fun d hd => by obtain ⟨x, hx, rfl⟩ := List.mem_map.mp hd; exact (TmH.both _ x (hr x hx)).1
  have g1 : -1000000000 ≤ many ∧ many ≤ 1000000000 := by omega
  have g2 : many.toNat ≤ 1000000 := by omega
  refine ⟨rs, a', b', ?_, by omega, hr, ?_⟩
  · simp [rLArgs, fnRun, evSq, evIf, tstB, evPrim, evOms, evC, evVar, evMov, evAsg, tgN, tgT, tgL, tgsCons, tgsNil, evSetIx, evRet, evRetN, evDrop, evSkip, evCont, evPar, evSeq, evFz, evTru, tru, evAnd, evOr, evNot, evAndV, evOrV, evNotV, evChain, evChain2, evMut, muAppend, muPop, muExtend, muClear, evMeth, rfTy, Dt.ofTy, evMethT, evCall, clr, rfs, bput, backs, evFor, evRng1, evRng2, evItems, items, evComp, M.set, M.blank, blankR, rst, Q.small, evAug, and_assoc, pTuple, e1, q1, e, cr, g1, g2]
  · have hmul : many.toNat * (room / many).toNat ≤ room.toNat := by
      by_cases mp : 0 < many
      · have := Int.mul_ediv_self_le (x := room) (by omega : many ≠ 0)
        have hdiv : 0 ≤ room / many := Int.ediv_nonneg h0 (by omega)
        have e2 : ((many.toNat * (room / many).toNat : Nat) : Int) = many * (room / many) := by
          rw [Int.natCast_mul, Int.toNat_of_nonneg m0, Int.toNat_of_nonneg hdiv]
        omega
      · have : many.toNat = 0 := by omega
        rw [this]; omega
    have : many.toNat * (200 * (room / many).toNat + 22) = 200 * (many.toNat * (room / many).toNat) + many.toNat * 22 := by
      rw [Nat.mul_add]; congr 1; rw [Nat.mul_left_comm]
    omega⟩
end My
namespace My
open PySem L2 Q
theorem two_rows {rs : List Row} (h : (rs.length : Int) = 2) : ∃ x y, rs = [x, y] := by
  match rs, h with
  | [x, y], _ => exact ⟨x, y, rfl⟩
  | [], h => exact absurd h (by decide)
  | [x], h => exact absurd h (by simp)
  | _ :: _ :: _ :: _, h => exact absurd h (by simp; omega)
theorem rows_n {rs : List Row} {room many : Int} (h0 : 0 ≤ room) (m1 : 1 ≤ many) (m4 : many ≤ 4) (hl : (rs.length : Int) = many) (h : ∀ x ∈ rs, x.n ≤ 200 * (room / many).toNat + 20) : rsN rs ≤ 200 * room.toNat + 100 := by
  have s : ∀ (l : List Row) (c : Nat), (∀ x ∈ l, x.n ≤ c) → rsN l ≤ l.length * (c + 2) := by
    intro l c
    induction l with
    | nil => intro _; simp [rsN]
    | cons x l ih =>
      intro hh
      have h1 := hh x List.mem_cons_self
      have h2 := ih fun y hy => hh y (List.mem_cons_of_mem _ hy)
      unfold rsN at *
      rw [List.map_cons, List.sum_cons, List.length_cons, Nat.add_mul]
      omega
  have hs := s rs _ h
  have hmul : many.toNat * (room / many).toNat ≤ room.toNat := by
    have := Int.mul_ediv_self_le (x := room) (by omega : many ≠ 0)
    have hdiv : 0 ≤ room / many := Int.ediv_nonneg h0 (by omega)
    have e2 : ((many.toNat * (room / many).toNat : Nat) : Int) = many * (room / many) := by
      rw [Int.natCast_mul, Int.toNat_of_nonneg (by omega), Int.toNat_of_nonneg hdiv]
    omega
  have hln : rs.length = many.toNat := by omega
  have : many.toNat * (200 * (room / many).toNat + 20 + 2) = 200 * (many.toNat * (room / many).toNat) + many.toNat * 22 := by
    rw [show 200 * (room / many).toNat + 20 + 2 = 200 * (room / many).toNat + 22 from rfl, Nat.mul_add]; congr 1; rw [Nat.mul_left_comm]
  rw [hln, this] at hs
  omega
theorem pIdx_t2a {x y : Dt} (c : x.cp = true) : pIdx [.tup [x, y], .int 0] = some x := by simp [fnRun, evSq, evIf, tstB, evPrim, evOms, evC, evVar, evMov, evAsg, tgN, tgT, tgL, tgsCons, tgsNil, evSetIx, evRet, evRetN, evDrop, evSkip, evCont, evPar, evSeq, evFz, evTru, tru, evAnd, evOr, evNot, evAndV, evOrV, evNotV, evChain, evChain2, evMut, muAppend, muPop, muExtend, muClear, evMeth, rfTy, Dt.ofTy, evMethT, evCall, clr, rfs, bput, backs, evFor, evRng1, evRng2, evItems, items, evComp, M.set, M.blank, blankR, rst, pInt2, pCmp2, pAdd, pMul, pNeg, pIdx, cpo, pLen, pEqN, pInN, sq, pIsN, pNotN, pTuple, pList, pAll, pAny, pSum, pMaxL, pMax2, pMin2, pIntC, pStrI, pJoin, pUpper, pIndex, pIndexT, pIsi, kindT, isSub, pLeA, pRev, pRevS, evSl0, evSlL, evSlH, evSlB, slD, big_s, Q.small, evAug, Dt.isNon, and_assoc, ite_nle, ite_nlt, ite_ile, ite_ilt, ite_nle', ite_nlt', ite_ile', ite_ilt', bif_ile, c]
theorem pIdx_t2b {x y : Dt} (c : y.cp = true) : pIdx [.tup [x, y], .int 1] = some y := by simp [fnRun, evSq, evIf, tstB, evPrim, evOms, evC, evVar, evMov, evAsg, tgN, tgT, tgL, tgsCons, tgsNil, evSetIx, evRet, evRetN, evDrop, evSkip, evCont, evPar, evSeq, evFz, evTru, tru, evAnd, evOr, evNot, evAndV, evOrV, evNotV, evChain, evChain2, evMut, muAppend, muPop, muExtend, muClear, evMeth, rfTy, Dt.ofTy, evMethT, evCall, clr, rfs, bput, backs, evFor, evRng1, evRng2, evItems, items, evComp, M.set, M.blank, blankR, rst, pInt2, pCmp2, pAdd, pMul, pNeg, pIdx, cpo, pLen, pEqN, pInN, sq, pIsN, pNotN, pTuple, pList, pAll, pAny, pSum, pMaxL, pMax2, pMin2, pIntC, pStrI, pJoin, pUpper, pIndex, pIndexT, pIsi, kindT, isSub, pLeA, pRev, pRevS, evSl0, evSlL, evSlH, evSlB, slD, big_s, Q.small, evAug, Dt.isNon, and_assoc, ite_nle, ite_nlt, ite_ile, ite_ilt, ite_nle', ite_nlt', ite_ile', ite_ilt', bif_ile, c]
theorem term_step {N F : List (List Nat)} (P : Pool N F) {S : List Ob} {n : Nat} (R : DRow N F S n) (G : DArgs N F S n) : DTerm N F S (n + 1) := ⟨by
  intro room down a b h0 h60 d0 d9 hn
  have n8 := P.n8
  obtain ⟨f, a1, b1, e1, h1, h1'⟩ := take_spec a b 9 (by decide) (by decide) S
  have s1 : evAsg (evCall rLTake 2 [0] [.rf 0, .ev (evC (.int 9))]) (tgN 4) ⟨[some (fdD a b), some (poD N F), some (.int room), some (.int down), none, none, none], S⟩ = some (.nx, ⟨[some (fdD a1 b1), some (poD N F), some (.int room), some (.int down), some (.int f), none, none], S⟩) := by simp [fnRun, evSq, evIf, tstB, evPrim, evOms, evC, evVar, evMov, evAsg, tgN, tgT, tgL, tgsCons, tgsNil, evSetIx, evRet, evRetN, evDrop, evSkip, evCont, evPar, evSeq, evFz, evTru, tru, evAnd, evOr, evNot, evAndV, evOrV, evNotV, evChain, evChain2, evMut, muAppend, muPop, muExtend, muClear, evMeth, rfTy, Dt.ofTy, evMethT, evCall, clr, rfs, bput, backs, evFor, evRng1, evRng2, evItems, items, evComp, M.set, M.blank, blankR, rst, Q.small, evAug, and_assoc, e1]
  have word : ∀ (a b : Int), ∃ (w : List Nat) (k a' b' : Int), rLTake [fdD a b, .int 8] S = some (.int k, [fdD a' b'], S) ∧ pIdx [.lst false (N.map .str), .int k] = some (.str w) ∧ w.length ≤ 8 := fun a b => by
    obtain ⟨k, a', b', e, h, h'⟩ := take_spec a b 8 (by decide) (by decide) S
    obtain ⟨w, ew, hw⟩ := pick_w h (by omega : k < N.length) P.nl
    exact ⟨w, k, a', b', e, ew, hw⟩
  by_cases c : down < 1 ∨ f = 0 ∨ room < 5
  · obtain ⟨r, a2, b2, e2, t2, n2⟩ := leaf_spec P a1 b1 S
    refine ⟨r, a2, b2, ?_, t2.mono (by omega), by omega⟩
    unfold rLTerm
    refine fn_rt (m' := ⟨[some (fdD a2 b2), some (poD N F), some (.int room), some (.int down), some (.int f), none, none], S⟩) (ρ0 := [some (fdD a b), some (poD N F), some (.int room), some (.int down), none, none, none]) rfl ?_ rfl
    rw [sq_nx s1, sq_yes (m1 := ⟨[some (fdD a1 b1), some (poD N F), some (.int room), some (.int down), some (.int f), none, none], S⟩) (by
      by_cases c1 : down < 1
      · simp [fnRun, evSq, evIf, tstB, evPrim, evOms, evC, evVar, evMov, evAsg, tgN, tgT, tgL, tgsCons, tgsNil, evSetIx, evRet, evRetN, evDrop, evSkip, evCont, evPar, evSeq, evFz, evTru, tru, evAnd, evOr, evNot, evAndV, evOrV, evNotV, evChain, evChain2, evMut, muAppend, muPop, muExtend, muClear, evMeth, rfTy, Dt.ofTy, evMethT, evCall, clr, rfs, bput, backs, evFor, evRng1, evRng2, evItems, items, evComp, M.set, M.blank, blankR, rst, pInt2, pCmp2, pAdd, pMul, pNeg, pIdx, cpo, pLen, pEqN, pInN, sq, pIsN, pNotN, pTuple, pList, pAll, pAny, pSum, pMaxL, pMax2, pMin2, pIntC, pStrI, pJoin, pUpper, pIndex, pIndexT, pIsi, kindT, isSub, pLeA, pRev, pRevS, evSl0, evSlL, evSlH, evSlB, slD, big_s, Q.small, evAug, Dt.isNon, and_assoc, ite_nle, ite_nlt, ite_ile, ite_ilt, ite_nle', ite_nlt', ite_ile', ite_ilt', bif_ile, c1]
      · by_cases c2 : f = 0
        · simp [fnRun, evSq, evIf, tstB, evPrim, evOms, evC, evVar, evMov, evAsg, tgN, tgT, tgL, tgsCons, tgsNil, evSetIx, evRet, evRetN, evDrop, evSkip, evCont, evPar, evSeq, evFz, evTru, tru, evAnd, evOr, evNot, evAndV, evOrV, evNotV, evChain, evChain2, evMut, muAppend, muPop, muExtend, muClear, evMeth, rfTy, Dt.ofTy, evMethT, evCall, clr, rfs, bput, backs, evFor, evRng1, evRng2, evItems, items, evComp, M.set, M.blank, blankR, rst, pInt2, pCmp2, pAdd, pMul, pNeg, pIdx, cpo, pLen, pEqN, pInN, sq, pIsN, pNotN, pTuple, pList, pAll, pAny, pSum, pMaxL, pMax2, pMin2, pIntC, pStrI, pJoin, pUpper, pIndex, pIndexT, pIsi, kindT, isSub, pLeA, pRev, pRevS, evSl0, evSlL, evSlH, evSlB, slD, big_s, Q.small, evAug, Dt.isNon, and_assoc, ite_nle, ite_nlt, ite_ile, ite_ilt, ite_nle', ite_nlt', ite_ile', ite_ilt', bif_ile, c1, c2]
        · have c3 : room < 5 := by omega
          simp [fnRun, evSq, evIf, tstB, evPrim, evOms, evC, evVar, evMov, evAsg, tgN, tgT, tgL, tgsCons, tgsNil, evSetIx, evRet, evRetN, evDrop, evSkip, evCont, evPar, evSeq, evFz, evTru, tru, evAnd, evOr, evNot, evAndV, evOrV, evNotV, evChain, evChain2, evMut, muAppend, muPop, muExtend, muClear, evMeth, rfTy, Dt.ofTy, evMethT, evCall, clr, rfs, bput, backs, evFor, evRng1, evRng2, evItems, items, evComp, M.set, M.blank, blankR, rst, pInt2, pCmp2, pAdd, pMul, pNeg, pIdx, cpo, pLen, pEqN, pInN, sq, pIsN, pNotN, pTuple, pList, pAll, pAny, pSum, pMaxL, pMax2, pMin2, pIntC, pStrI, pJoin, pUpper, pIndex, pIndexT, pIsi, kindT, isSub, pLeA, pRev, pRevS, evSl0, evSlL, evSlH, evSlB, slD, big_s, Q.small, evAug, Dt.isNon, and_assoc, ite_nle, ite_nlt, ite_ile, ite_ilt, ite_nle', ite_nlt', ite_ile', ite_ilt', bif_ile, c1, c2, c3])]
    exact sq_rt (by simp [fnRun, evSq, evIf, tstB, evPrim, evOms, evC, evVar, evMov, evAsg, tgN, tgT, tgL, tgsCons, tgsNil, evSetIx, evRet, evRetN, evDrop, evSkip, evCont, evPar, evSeq, evFz, evTru, tru, evAnd, evOr, evNot, evAndV, evOrV, evNotV, evChain, evChain2, evMut, muAppend, muPop, muExtend, muClear, evMeth, rfTy, Dt.ofTy, evMethT, evCall, clr, rfs, bput, backs, evFor, evRng1, evRng2, evItems, items, evComp, M.set, M.blank, blankR, rst, Q.small, evAug, and_assoc, e2])
  · have c1 : ¬ down < 1 := fun z => c (.inl z)
    have c2 : ¬ f = 0 := fun z => c (.inr (.inl z))
    have c3 : ¬ room < 5 := fun z => c (.inr (.inr z))
    have t0 : evOr (tstB (evPrim pLt [.rf 3, .ev (evC (.int 1))])) (evOr (tstB (evPrim pEq [.rf 4, .ev (evC (.int 0))])) (tstB (evPrim pLt [.rf 2, .ev (evC (.int 5))]))) ⟨[some (fdD a1 b1), some (poD N F), some (.int room), some (.int down), some (.int f), none, none], S⟩ = some (false, ⟨[some (fdD a1 b1), some (poD N F), some (.int room), some (.int down), some (.int f), none, none], S⟩) := by simp [fnRun, evSq, evIf, tstB, evPrim, evOms, evC, evVar, evMov, evAsg, tgN, tgT, tgL, tgsCons, tgsNil, evSetIx, evRet, evRetN, evDrop, evSkip, evCont, evPar, evSeq, evFz, evTru, tru, evAnd, evOr, evNot, evAndV, evOrV, evNotV, evChain, evChain2, evMut, muAppend, muPop, muExtend, muClear, evMeth, rfTy, Dt.ofTy, evMethT, evCall, clr, rfs, bput, backs, evFor, evRng1, evRng2, evItems, items, evComp, M.set, M.blank, blankR, rst, pInt2, pCmp2, pAdd, pMul, pNeg, pIdx, cpo, pLen, pEqN, pInN, sq, pIsN, pNotN, pTuple, pList, pAll, pAny, pSum, pMaxL, pMax2, pMin2, pIntC, pStrI, pJoin, pUpper, pIndex, pIndexT, pIsi, kindT, isSub, pLeA, pRev, pRevS, evSl0, evSlL, evSlH, evSlB, slD, big_s, Q.small, evAug, Dt.isNon, and_assoc, ite_nle, ite_nlt, ite_ile, ite_ilt, ite_nle', ite_nlt', ite_ile', ite_ilt', bif_ile, c1, c2, c3]
    have q1 : pSub [.int room, .int 1] = some (.int (room - 1)) := by simp [fnRun, evSq, evIf, tstB, evPrim, evOms, evC, evVar, evMov, evAsg, tgN, tgT, tgL, tgsCons, tgsNil, evSetIx, evRet, evRetN, evDrop, evSkip, evCont, evPar, evSeq, evFz, evTru, tru, evAnd, evOr, evNot, evAndV, evOrV, evNotV, evChain, evChain2, evMut, muAppend, muPop, muExtend, muClear, evMeth, rfTy, Dt.ofTy, evMethT, evCall, clr, rfs, bput, backs, evFor, evRng1, evRng2, evItems, items, evComp, M.set, M.blank, blankR, rst, pInt2, pCmp2, pAdd, pMul, pNeg, pIdx, cpo, pLen, pEqN, pInN, sq, pIsN, pNotN, pTuple, pList, pAll, pAny, pSum, pMaxL, pMax2, pMin2, pIntC, pStrI, pJoin, pUpper, pIndex, pIndexT, pIsi, kindT, isSub, pLeA, pRev, pRevS, evSl0, evSlL, evSlH, evSlB, slD, big_s, Q.small, evAug, Dt.isNon, and_assoc, ite_nle, ite_nlt, ite_ile, ite_ilt, ite_nle', ite_nlt', ite_ile', ite_ilt', bif_ile]
    have q2 : pDiv [.int (room - 1), .int 3] = some (.int ((room - 1) / 3)) := by simp [fnRun, evSq, evIf, tstB, evPrim, evOms, evC, evVar, evMov, evAsg, tgN, tgT, tgL, tgsCons, tgsNil, evSetIx, evRet, evRetN, evDrop, evSkip, evCont, evPar, evSeq, evFz, evTru, tru, evAnd, evOr, evNot, evAndV, evOrV, evNotV, evChain, evChain2, evMut, muAppend, muPop, muExtend, muClear, evMeth, rfTy, Dt.ofTy, evMethT, evCall, clr, rfs, bput, backs, evFor, evRng1, evRng2, evItems, items, evComp, M.set, M.blank, blankR, rst, pInt2, pCmp2, pAdd, pMul, pNeg, pIdx, cpo, pLen, pEqN, pInN, sq, pIsN, pNotN, pTuple, pList, pAll, pAny, pSum, pMaxL, pMax2, pMin2, pIntC, pStrI, pJoin, pUpper, pIndex, pIndexT, pIsi, kindT, isSub, pLeA, pRev, pRevS, evSl0, evSlL, evSlH, evSlB, slD, big_s, Q.small, evAug, Dt.isNon, and_assoc, ite_nle, ite_nlt, ite_ile, ite_ilt, ite_nle', ite_nlt', ite_ile', ite_ilt', bif_ile]
    have q3 : pMul [.int (room - 1), .int 2] = some (.int ((room - 1) * 2)) := by simp [fnRun, evSq, evIf, tstB, evPrim, evOms, evC, evVar, evMov, evAsg, tgN, tgT, tgL, tgsCons, tgsNil, evSetIx, evRet, evRetN, evDrop, evSkip, evCont, evPar, evSeq, evFz, evTru, tru, evAnd, evOr, evNot, evAndV, evOrV, evNotV, evChain, evChain2, evMut, muAppend, muPop, muExtend, muClear, evMeth, rfTy, Dt.ofTy, evMethT, evCall, clr, rfs, bput, backs, evFor, evRng1, evRng2, evItems, items, evComp, M.set, M.blank, blankR, rst, pInt2, pCmp2, pAdd, pMul, pNeg, pIdx, cpo, pLen, pEqN, pInN, sq, pIsN, pNotN, pTuple, pList, pAll, pAny, pSum, pMaxL, pMax2, pMin2, pIntC, pStrI, pJoin, pUpper, pIndex, pIndexT, pIsi, kindT, isSub, pLeA, pRev, pRevS, evSl0, evSlL, evSlH, evSlB, slD, big_s, Q.small, evAug, Dt.isNon, and_assoc, ite_nle, ite_nlt, ite_ile, ite_ilt, ite_nle', ite_nlt', ite_ile', ite_ilt', bif_ile]
    have q4 : pDiv [.int ((room - 1) * 2), .int 3] = some (.int ((room - 1) * 2 / 3)) := by simp [fnRun, evSq, evIf, tstB, evPrim, evOms, evC, evVar, evMov, evAsg, tgN, tgT, tgL, tgsCons, tgsNil, evSetIx, evRet, evRetN, evDrop, evSkip, evCont, evPar, evSeq, evFz, evTru, tru, evAnd, evOr, evNot, evAndV, evOrV, evNotV, evChain, evChain2, evMut, muAppend, muPop, muExtend, muClear, evMeth, rfTy, Dt.ofTy, evMethT, evCall, clr, rfs, bput, backs, evFor, evRng1, evRng2, evItems, items, evComp, M.set, M.blank, blankR, rst, pInt2, pCmp2, pAdd, pMul, pNeg, pIdx, cpo, pLen, pEqN, pInN, sq, pIsN, pNotN, pTuple, pList, pAll, pAny, pSum, pMaxL, pMax2, pMin2, pIntC, pStrI, pJoin, pUpper, pIndex, pIndexT, pIsi, kindT, isSub, pLeA, pRev, pRevS, evSl0, evSlL, evSlH, evSlB, slD, big_s, Q.small, evAug, Dt.isNon, and_assoc, ite_nle, ite_nlt, ite_ile, ite_ilt, ite_nle', ite_nlt', ite_ile', ite_ilt', bif_ile]
    have q5 : pMin2 [.int 7, .int ((room - 1) / 3)] = some (.int (min 7 ((room - 1) / 3))) := by simp [pMin2]; omega
    by_cases f3 : f < 3
    · obtain ⟨w, k, a2, b2, e2, ew, hw⟩ := word a1 b1
      obtain ⟨r3, a3, b3, e3, h3, h3'⟩ := take_spec a2 b2 3 (by decide) (by decide) S
      obtain ⟨rs, a4, b4, e4, hl, hr⟩ := R.h (room - 1) down (1 + r3) a3 b3 (by omega) (by omega) (by omega) (by omega) (by omega) (by omega) (by omega)
      have hs := rows_n (room := room - 1) (by omega) (by omega : 1 ≤ 1 + r3) (by omega) hl fun x hx => (hr x hx).2
      have q6 : pAdd [.int 1, .int r3] = some (.int (1 + r3)) := rfl
      have cr : cps (rs.map Row.d) = true := cps_of fun d hd => by obtain ⟨x, hx, rfl⟩ := List.mem_map.mp hd; exact (TmH.both _ x (hr x hx).1).1
      refine ⟨⟨.tup [.str kDo, .str w, .tup (rs.map Row.d)], 40 :: w ++ sepZ rs ++ [41], rsN rs + 40⟩, a4, b4, ?_, (show TmH (down.toNat + 70 + 1) _ from .inr (.inr (.inr (.inr (.inr (.inl ⟨w, rs, hw, fun x hx => (hr x hx).1, by omega, rfl⟩)))))), by simp only; omega⟩
      unfold rLTerm
      refine fn_rt (m' := ⟨[some (fdD a4 b4), some (poD N F), some (.int room), some (.int down), some (.int f), none, none], S⟩) (ρ0 := [some (fdD a b), some (poD N F), some (.int room), some (.int down), none, none, none]) rfl ?_ rfl
      rw [sq_nx s1, sq_no t0, sq_yes (m1 := ⟨[some (fdD a1 b1), some (poD N F), some (.int room), some (.int down), some (.int f), none, none], S⟩) (by simp [fnRun, evSq, evIf, tstB, evPrim, evOms, evC, evVar, evMov, evAsg, tgN, tgT, tgL, tgsCons, tgsNil, evSetIx, evRet, evRetN, evDrop, evSkip, evCont, evPar, evSeq, evFz, evTru, tru, evAnd, evOr, evNot, evAndV, evOrV, evNotV, evChain, evChain2, evMut, muAppend, muPop, muExtend, muClear, evMeth, rfTy, Dt.ofTy, evMethT, evCall, clr, rfs, bput, backs, evFor, evRng1, evRng2, evItems, items, evComp, M.set, M.blank, blankR, rst, pInt2, pCmp2, pAdd, pMul, pNeg, pIdx, cpo, pLen, pEqN, pInN, sq, pIsN, pNotN, pTuple, pList, pAll, pAny, pSum, pMaxL, pMax2, pMin2, pIntC, pStrI, pJoin, pUpper, pIndex, pIndexT, pIsi, kindT, isSub, pLeA, pRev, pRevS, evSl0, evSlL, evSlH, evSlB, slD, big_s, Q.small, evAug, Dt.isNon, and_assoc, ite_nle, ite_nlt, ite_ile, ite_ilt, ite_nle', ite_nlt', ite_ile', ite_ilt', bif_ile, f3])]
      exact sq_rt (by simp [fnRun, evSq, evIf, tstB, evPrim, evOms, evC, evVar, evMov, evAsg, tgN, tgT, tgL, tgsCons, tgsNil, evSetIx, evRet, evRetN, evDrop, evSkip, evCont, evPar, evSeq, evFz, evTru, tru, evAnd, evOr, evNot, evAndV, evOrV, evNotV, evChain, evChain2, evMut, muAppend, muPop, muExtend, muClear, evMeth, rfTy, Dt.ofTy, evMethT, evCall, clr, rfs, bput, backs, evFor, evRng1, evRng2, evItems, items, evComp, M.set, M.blank, blankR, rst, Q.small, evAug, and_assoc, po0, e2, ew, e3, e4, q1, q6, cr])
    · have t3 : tstB (evPrim pLt [.rf 4, .ev (evC (.int 3))]) ⟨[some (fdD a1 b1), some (poD N F), some (.int room), some (.int down), some (.int f), none, none], S⟩ = some (false, ⟨[some (fdD a1 b1), some (poD N F), some (.int room), some (.int down), some (.int f), none, none], S⟩) := by simp [fnRun, evSq, evIf, tstB, evPrim, evOms, evC, evVar, evMov, evAsg, tgN, tgT, tgL, tgsCons, tgsNil, evSetIx, evRet, evRetN, evDrop, evSkip, evCont, evPar, evSeq, evFz, evTru, tru, evAnd, evOr, evNot, evAndV, evOrV, evNotV, evChain, evChain2, evMut, muAppend, muPop, muExtend, muClear, evMeth, rfTy, Dt.ofTy, evMethT, evCall, clr, rfs, bput, backs, evFor, evRng1, evRng2, evItems, items, evComp, M.set, M.blank, blankR, rst, pInt2, pCmp2, pAdd, pMul, pNeg, pIdx, cpo, pLen, pEqN, pInN, sq, pIsN, pNotN, pTuple, pList, pAll, pAny, pSum, pMaxL, pMax2, pMin2, pIntC, pStrI, pJoin, pUpper, pIndex, pIndexT, pIsi, kindT, isSub, pLeA, pRev, pRevS, evSl0, evSlL, evSlH, evSlB, slD, big_s, Q.small, evAug, Dt.isNon, and_assoc, ite_nle, ite_nlt, ite_ile, ite_ilt, ite_nle', ite_nlt', ite_ile', ite_ilt', bif_ile, f3]
      by_cases f33 : f = 3
      · obtain ⟨rs, a2, b2, e2, hl, hr⟩ := R.h (room - 1) down 2 a1 b1 (by omega) (by omega) (by omega) (by omega) (by omega) (by omega) (by omega)
        obtain ⟨x, y, rfl⟩ := two_rows hl
        obtain ⟨w, k, a3, b3, e3, ew, hw⟩ := word a2 b2
        obtain ⟨hx, nx⟩ := hr x (by simp)
        obtain ⟨hy, ny⟩ := hr y (by simp)
        have cx := (TmH.both _ x hx).1
        have cy := (TmH.both _ y hy).1
        refine ⟨⟨.tup [.str kLet, .str w, x.d, y.d], [40, 108, 101, 116, 32] ++ w ++ 32 :: x.z ++ 32 :: y.z ++ [41], x.n + y.n + 40⟩, a3, b3, ?_, (show TmH (down.toNat + 70 + 1) _ from .inr (.inr (.inr (.inr (.inr (.inr (.inl ⟨w, x, y, hw, hx, hy, rfl⟩))))))), by simp only; omega⟩
        unfold rLTerm
        refine fn_rt (m' := ⟨[some (fdD a3 b3), some (poD N F), some (.int room), some (.int down), some (.int f), some (.tup [x.d, y.d]), none], S⟩) (ρ0 := [some (fdD a b), some (poD N F), some (.int room), some (.int down), none, none, none]) rfl ?_ rfl
        rw [sq_nx s1, sq_no t0, sq_no t3, sq_yes (m1 := ⟨[some (fdD a1 b1), some (poD N F), some (.int room), some (.int down), some (.int f), none, none], S⟩) (by simp [fnRun, evSq, evIf, tstB, evPrim, evOms, evC, evVar, evMov, evAsg, tgN, tgT, tgL, tgsCons, tgsNil, evSetIx, evRet, evRetN, evDrop, evSkip, evCont, evPar, evSeq, evFz, evTru, tru, evAnd, evOr, evNot, evAndV, evOrV, evNotV, evChain, evChain2, evMut, muAppend, muPop, muExtend, muClear, evMeth, rfTy, Dt.ofTy, evMethT, evCall, clr, rfs, bput, backs, evFor, evRng1, evRng2, evItems, items, evComp, M.set, M.blank, blankR, rst, pInt2, pCmp2, pAdd, pMul, pNeg, pIdx, cpo, pLen, pEqN, pInN, sq, pIsN, pNotN, pTuple, pList, pAll, pAny, pSum, pMaxL, pMax2, pMin2, pIntC, pStrI, pJoin, pUpper, pIndex, pIndexT, pIsi, kindT, isSub, pLeA, pRev, pRevS, evSl0, evSlL, evSlH, evSlB, slD, big_s, Q.small, evAug, Dt.isNon, and_assoc, ite_nle, ite_nlt, ite_ile, ite_ilt, ite_nle', ite_nlt', ite_ile', ite_ilt', bif_ile, f33])]
        simp at e2
        simp [fnRun, evSq, evIf, tstB, evPrim, evOms, evC, evVar, evMov, evAsg, tgN, tgT, tgL, tgsCons, tgsNil, evSetIx, evRet, evRetN, evDrop, evSkip, evCont, evPar, evSeq, evFz, evTru, tru, evAnd, evOr, evNot, evAndV, evOrV, evNotV, evChain, evChain2, evMut, muAppend, muPop, muExtend, muClear, evMeth, rfTy, Dt.ofTy, evMethT, evCall, clr, rfs, bput, backs, evFor, evRng1, evRng2, evItems, items, evComp, M.set, M.blank, blankR, rst, Q.small, evAug, and_assoc, pIdx_t2a, pIdx_t2b, po0, e2, e3, ew, q1, cx, cy]
      · have t33 : tstB (evPrim pEq [.rf 4, .ev (evC (.int 3))]) ⟨[some (fdD a1 b1), some (poD N F), some (.int room), some (.int down), some (.int f), none, none], S⟩ = some (false, ⟨[some (fdD a1 b1), some (poD N F), some (.int room), some (.int down), some (.int f), none, none], S⟩) := by simp [fnRun, evSq, evIf, tstB, evPrim, evOms, evC, evVar, evMov, evAsg, tgN, tgT, tgL, tgsCons, tgsNil, evSetIx, evRet, evRetN, evDrop, evSkip, evCont, evPar, evSeq, evFz, evTru, tru, evAnd, evOr, evNot, evAndV, evOrV, evNotV, evChain, evChain2, evMut, muAppend, muPop, muExtend, muClear, evMeth, rfTy, Dt.ofTy, evMethT, evCall, clr, rfs, bput, backs, evFor, evRng1, evRng2, evItems, items, evComp, M.set, M.blank, blankR, rst, pInt2, pCmp2, pAdd, pMul, pNeg, pIdx, cpo, pLen, pEqN, pInN, sq, pIsN, pNotN, pTuple, pList, pAll, pAny, pSum, pMaxL, pMax2, pMin2, pIntC, pStrI, pJoin, pUpper, pIndex, pIndexT, pIsi, kindT, isSub, pLeA, pRev, pRevS, evSl0, evSlL, evSlH, evSlB, slD, big_s, Q.small, evAug, Dt.isNon, and_assoc, ite_nle, ite_nlt, ite_ile, ite_ilt, ite_nle', ite_nlt', ite_ile', ite_ilt', bif_ile, f33]
        have hd3 : 0 ≤ (room - 1) / 3 := Int.ediv_nonneg (by omega) (by decide)
        obtain ⟨c, a2, b2, e2, hc, nc⟩ := number_spec P S 70 (min 7 ((room - 1) / 3)) a1 b1 (by omega) (by omega) (by omega)
        have cc := (TmH.both _ c hc).1
        have hd2 : 0 ≤ (room - 1) * 2 / 3 := Int.ediv_nonneg (by omega) (by decide)
        by_cases f6 : f < 6
        · obtain ⟨rs, a3, b3, e3, hl, hr⟩ := R.h ((room - 1) * 2 / 3) down 2 a2 b2 hd2 (by omega) (by omega) (by omega) (by omega) (by omega) (by omega)
          obtain ⟨x, y, rfl⟩ := two_rows hl
          obtain ⟨w, k, a4, b4, e4, ew, hw⟩ := word a3 b3
          obtain ⟨v, k2, a5, b5, e5, ev, hv⟩ := word a4 b4
          obtain ⟨hx, nx⟩ := hr x (by simp)
          obtain ⟨hy, ny⟩ := hr y (by simp)
          have cx := (TmH.both _ x hx).1
          have cy := (TmH.both _ y hy).1
          refine ⟨⟨.tup [.str kLoop, .str w, c.d, .str v, x.d, y.d], [40, 108, 111, 111, 112, 32, 35] ++ w ++ 32 :: c.z ++ 32 :: v ++ 32 :: x.z ++ 32 :: y.z ++ [41], c.n + x.n + y.n + 60⟩, a5, b5, ?_, (show TmH (down.toNat + 70 + 1) _ from .inr (.inr (.inr (.inr (.inr (.inr (.inr (.inl ⟨w, v, c, x, y, hw, hv, hc.mono (by omega), hx, hy, rfl⟩)))))))), by simp only; omega⟩
          unfold rLTerm
          refine fn_rt (m' := ⟨[some (fdD a5 b5), some (poD N F), some (.int room), some (.int down), some (.int f), some (.tup [x.d, y.d]), some c.d], S⟩) (ρ0 := [some (fdD a b), some (poD N F), some (.int room), some (.int down), none, none, none]) rfl ?_ rfl
          rw [sq_nx s1, sq_no t0, sq_no t3, sq_no t33, sq_yes (m1 := ⟨[some (fdD a1 b1), some (poD N F), some (.int room), some (.int down), some (.int f), none, none], S⟩) (by simp [fnRun, evSq, evIf, tstB, evPrim, evOms, evC, evVar, evMov, evAsg, tgN, tgT, tgL, tgsCons, tgsNil, evSetIx, evRet, evRetN, evDrop, evSkip, evCont, evPar, evSeq, evFz, evTru, tru, evAnd, evOr, evNot, evAndV, evOrV, evNotV, evChain, evChain2, evMut, muAppend, muPop, muExtend, muClear, evMeth, rfTy, Dt.ofTy, evMethT, evCall, clr, rfs, bput, backs, evFor, evRng1, evRng2, evItems, items, evComp, M.set, M.blank, blankR, rst, pInt2, pCmp2, pAdd, pMul, pNeg, pIdx, cpo, pLen, pEqN, pInN, sq, pIsN, pNotN, pTuple, pList, pAll, pAny, pSum, pMaxL, pMax2, pMin2, pIntC, pStrI, pJoin, pUpper, pIndex, pIndexT, pIsi, kindT, isSub, pLeA, pRev, pRevS, evSl0, evSlL, evSlH, evSlB, slD, big_s, Q.small, evAug, Dt.isNon, and_assoc, ite_nle, ite_nlt, ite_ile, ite_ilt, ite_nle', ite_nlt', ite_ile', ite_ilt', bif_ile, f6])]
          simp at e3
          simp [fnRun, evSq, evIf, tstB, evPrim, evOms, evC, evVar, evMov, evAsg, tgN, tgT, tgL, tgsCons, tgsNil, evSetIx, evRet, evRetN, evDrop, evSkip, evCont, evPar, evSeq, evFz, evTru, tru, evAnd, evOr, evNot, evAndV, evOrV, evNotV, evChain, evChain2, evMut, muAppend, muPop, muExtend, muClear, evMeth, rfTy, Dt.ofTy, evMethT, evCall, clr, rfs, bput, backs, evFor, evRng1, evRng2, evItems, items, evComp, M.set, M.blank, blankR, rst, Q.small, evAug, and_assoc, pIdx_t2a, pIdx_t2b, po0, e2, e3, e4, e5, ew, ev, q1, q2, q3, q4, q5, cx, cy, cc]
        · have t6 : tstB (evPrim pLt [.rf 4, .ev (evC (.int 6))]) ⟨[some (fdD a1 b1), some (poD N F), some (.int room), some (.int down), some (.int f), none, none], S⟩ = some (false, ⟨[some (fdD a1 b1), some (poD N F), some (.int room), some (.int down), some (.int f), none, none], S⟩) := by simp [fnRun, evSq, evIf, tstB, evPrim, evOms, evC, evVar, evMov, evAsg, tgN, tgT, tgL, tgsCons, tgsNil, evSetIx, evRet, evRetN, evDrop, evSkip, evCont, evPar, evSeq, evFz, evTru, tru, evAnd, evOr, evNot, evAndV, evOrV, evNotV, evChain, evChain2, evMut, muAppend, muPop, muExtend, muClear, evMeth, rfTy, Dt.ofTy, evMethT, evCall, clr, rfs, bput, backs, evFor, evRng1, evRng2, evItems, items, evComp, M.set, M.blank, blankR, rst, pInt2, pCmp2, pAdd, pMul, pNeg, pIdx, cpo, pLen, pEqN, pInN, sq, pIsN, pNotN, pTuple, pList, pAll, pAny, pSum, pMaxL, pMax2, pMin2, pIntC, pStrI, pJoin, pUpper, pIndex, pIndexT, pIsi, kindT, isSub, pLeA, pRev, pRevS, evSl0, evSlL, evSlH, evSlB, slD, big_s, Q.small, evAug, Dt.isNon, and_assoc, ite_nle, ite_nlt, ite_ile, ite_ilt, ite_nle', ite_nlt', ite_ile', ite_ilt', bif_ile, f6]
          by_cases f66 : f = 6
          · obtain ⟨r3, a3, b3, e3, h3, h3'⟩ := take_spec a2 b2 2 (by decide) (by decide) S
            obtain ⟨rs, a4, b4, e4, hl, hr⟩ := R.h ((room - 1) * 2 / 3) down (1 + r3) a3 b3 hd2 (by omega) (by omega) (by omega) (by omega) (by omega) (by omega)
            have hs := rows_n (room := (room - 1) * 2 / 3) hd2 (by omega : 1 ≤ 1 + r3) (by omega) hl fun x hx => (hr x hx).2
            have q6 : pAdd [.int 1, .int r3] = some (.int (1 + r3)) := rfl
            have cr : cps (rs.map Row.d) = true := cps_of fun d hd => by obtain ⟨x, hx, rfl⟩ := List.mem_map.mp hd; exact (TmH.both _ x (hr x hx).1).1
            refine ⟨⟨.tup [.str kPick, c.d, .tup (rs.map Row.d)], [40, 112, 105, 99, 107, 32] ++ c.z ++ sepZ rs ++ [41], c.n + rsN rs + 40⟩, a4, b4, ?_, (show TmH (down.toNat + 70 + 1) _ from .inr (.inr (.inr (.inr (.inr (.inr (.inr (.inr (.inl ⟨c, rs, hc.mono (by omega), fun x hx => (hr x hx).1, by omega, rfl⟩))))))))), by simp only; omega⟩
            unfold rLTerm
            refine fn_rt (m' := ⟨[some (fdD a4 b4), some (poD N F), some (.int room), some (.int down), some (.int f), none, some c.d], S⟩) (ρ0 := [some (fdD a b), some (poD N F), some (.int room), some (.int down), none, none, none]) rfl ?_ rfl
            rw [sq_nx s1, sq_no t0, sq_no t3, sq_no t33, sq_no t6, sq_yes (m1 := ⟨[some (fdD a1 b1), some (poD N F), some (.int room), some (.int down), some (.int f), none, none], S⟩) (by simp [fnRun, evSq, evIf, tstB, evPrim, evOms, evC, evVar, evMov, evAsg, tgN, tgT, tgL, tgsCons, tgsNil, evSetIx, evRet, evRetN, evDrop, evSkip, evCont, evPar, evSeq, evFz, evTru, tru, evAnd, evOr, evNot, evAndV, evOrV, evNotV, evChain, evChain2, evMut, muAppend, muPop, muExtend, muClear, evMeth, rfTy, Dt.ofTy, evMethT, evCall, clr, rfs, bput, backs, evFor, evRng1, evRng2, evItems, items, evComp, M.set, M.blank, blankR, rst, pInt2, pCmp2, pAdd, pMul, pNeg, pIdx, cpo, pLen, pEqN, pInN, sq, pIsN, pNotN, pTuple, pList, pAll, pAny, pSum, pMaxL, pMax2, pMin2, pIntC, pStrI, pJoin, pUpper, pIndex, pIndexT, pIsi, kindT, isSub, pLeA, pRev, pRevS, evSl0, evSlL, evSlH, evSlB, slD, big_s, Q.small, evAug, Dt.isNon, and_assoc, ite_nle, ite_nlt, ite_ile, ite_ilt, ite_nle', ite_nlt', ite_ile', ite_ilt', bif_ile, f66])]
            simp [fnRun, evSq, evIf, tstB, evPrim, evOms, evC, evVar, evMov, evAsg, tgN, tgT, tgL, tgsCons, tgsNil, evSetIx, evRet, evRetN, evDrop, evSkip, evCont, evPar, evSeq, evFz, evTru, tru, evAnd, evOr, evNot, evAndV, evOrV, evNotV, evChain, evChain2, evMut, muAppend, muPop, muExtend, muClear, evMeth, rfTy, Dt.ofTy, evMethT, evCall, clr, rfs, bput, backs, evFor, evRng1, evRng2, evItems, items, evComp, M.set, M.blank, blankR, rst, Q.small, evAug, and_assoc, e2, e3, e4, q1, q2, q3, q4, q5, q6, cc]
          · have t66 : tstB (evPrim pEq [.rf 4, .ev (evC (.int 6))]) ⟨[some (fdD a1 b1), some (poD N F), some (.int room), some (.int down), some (.int f), none, none], S⟩ = some (false, ⟨[some (fdD a1 b1), some (poD N F), some (.int room), some (.int down), some (.int f), none, none], S⟩) := by simp [fnRun, evSq, evIf, tstB, evPrim, evOms, evC, evVar, evMov, evAsg, tgN, tgT, tgL, tgsCons, tgsNil, evSetIx, evRet, evRetN, evDrop, evSkip, evCont, evPar, evSeq, evFz, evTru, tru, evAnd, evOr, evNot, evAndV, evOrV, evNotV, evChain, evChain2, evMut, muAppend, muPop, muExtend, muClear, evMeth, rfTy, Dt.ofTy, evMethT, evCall, clr, rfs, bput, backs, evFor, evRng1, evRng2, evItems, items, evComp, M.set, M.blank, blankR, rst, pInt2, pCmp2, pAdd, pMul, pNeg, pIdx, cpo, pLen, pEqN, pInN, sq, pIsN, pNotN, pTuple, pList, pAll, pAny, pSum, pMaxL, pMax2, pMin2, pIntC, pStrI, pJoin, pUpper, pIndex, pIndexT, pIsi, kindT, isSub, pLeA, pRev, pRevS, evSl0, evSlL, evSlH, evSlB, slD, big_s, Q.small, evAug, Dt.isNon, and_assoc, ite_nle, ite_nlt, ite_ile, ite_ilt, ite_nle', ite_nlt', ite_ile', ite_ilt', bif_ile, f66]
            obtain ⟨w, k, a3, b3, e3, ew, hw⟩ := word a1 b1
            obtain ⟨rs, a4, b4, e4, hl, hr, hs⟩ := G.h (room - 1) down a3 b3 (by omega) (by omega) (by omega) (by omega) (by omega)
            refine ⟨⟨.tup [.str kCall, .str w, .tup (rs.map Row.d)], [40, 99, 97, 108, 108, 32] ++ w ++ sepZ rs ++ [41], rsN rs + 40⟩, a4, b4, ?_, (show TmH (down.toNat + 70 + 1) _ from .inr (.inr (.inr (.inr (.inr (.inr (.inr (.inr (.inr ⟨w, rs, hw, hr, by omega, rfl⟩))))))))), by simp only; omega⟩
            unfold rLTerm
            refine fn_rt (m' := ⟨[some (fdD a4 b4), some (poD N F), some (.int room), some (.int down), some (.int f), none, none], S⟩) (ρ0 := [some (fdD a b), some (poD N F), some (.int room), some (.int down), none, none, none]) rfl ?_ rfl
            rw [sq_nx s1, sq_no t0, sq_no t3, sq_no t33, sq_no t6, sq_no t66]
            exact rt_of (by simp [fnRun, evSq, evIf, tstB, evPrim, evOms, evC, evVar, evMov, evAsg, tgN, tgT, tgL, tgsCons, tgsNil, evSetIx, evRet, evRetN, evDrop, evSkip, evCont, evPar, evSeq, evFz, evTru, tru, evAnd, evOr, evNot, evAndV, evOrV, evNotV, evChain, evChain2, evMut, muAppend, muPop, muExtend, muClear, evMeth, rfTy, Dt.ofTy, evMethT, evCall, clr, rfs, bput, backs, evFor, evRng1, evRng2, evItems, items, evComp, M.set, M.blank, blankR, rst, Q.small, evAug, and_assoc, po0, e3, e4, ew, q1])⟩
theorem draw_spec {N F : List (List Nat)} (P : Pool N F) (S : List Ob) : ∀ n, DTerm N F S n ∧ DRow N F S n ∧ DArgs N F S n
  | 0 => ⟨⟨fun room down a b _ _ _ _ h => by omega⟩, ⟨fun room down many a b _ _ _ _ _ _ h => by omega⟩, ⟨fun room down a b _ _ _ _ h => by omega⟩⟩
  | n + 1 => ⟨term_step P (draw_spec P S n).2.1 (draw_spec P S n).2.2, row_step (draw_spec P S n).1, args_step P (draw_spec P S n).1⟩
end My
namespace My
open PySem L2 Q
theorem capw_len {w : List Nat} (h1 : 1 ≤ w.length) : (capw w).length = w.length := by
  unfold capw
  rw [cut_one w h1, cut_rest w h1, List.length_append, List.length_map, List.length_take, List.length_drop]
  omega
def near : List (List Nat) := [[108, 101, 116, 115], [108, 101, 116, 108, 101, 116], [100, 101, 102, 115], [116, 101, 108, 108, 115], [116, 101, 108, 108, 109, 101], [108, 111, 111, 112, 115], [108, 111, 111, 112, 101, 100], [112, 105, 99, 107, 115], [112, 105, 99, 107, 101, 114], [99, 97, 108, 108, 115], [99, 97, 108, 108, 101, 100]] ++ [[119, 111, 114, 108, 100, 115], [115, 104, 97, 112, 101, 115], [105, 110, 112, 117, 116], [105, 110, 112, 117, 116, 120], [97, 98, 99, 100, 101, 102], [118, 119, 120, 121, 122], [105, 110, 108, 101, 116], [114, 101, 100, 101, 102]]
theorem near_ok : ∀ w ∈ near, w.length ≤ 8 := by decide
theorem near_len : near.length = 19 := by decide
theorem pick_o {o : Bool} {N : List (List Nat)} {r : Int} (h0 : 0 ≤ r) (h1 : r < N.length) (hl : ∀ w ∈ N, w.length ≤ 8) : ∃ w, pIdx [.lst o (N.map .str), .int r] = some (.str w) ∧ w.length ≤ 8 := by
  have hx := List.getElem?_eq_getElem (l := N) (i := r.toNat) (by omega)
  exact ⟨N[r.toNat]'(by omega), by simp [fnRun, evSq, evIf, tstB, evPrim, evOms, evC, evVar, evMov, evAsg, tgN, tgT, tgL, tgsCons, tgsNil, evSetIx, evRet, evRetN, evDrop, evSkip, evCont, evPar, evSeq, evFz, evTru, tru, evAnd, evOr, evNot, evAndV, evOrV, evNotV, evChain, evChain2, evMut, muAppend, muPop, muExtend, muClear, evMeth, rfTy, Dt.ofTy, evMethT, evCall, clr, rfs, bput, backs, evFor, evRng1, evRng2, evItems, items, evComp, M.set, M.blank, blankR, rst, pInt2, pCmp2, pAdd, pMul, pNeg, pIdx, cpo, pLen, pEqN, pInN, sq, pIsN, pNotN, pTuple, pList, pAll, pAny, pSum, pMaxL, pMax2, pMin2, pIntC, pStrI, pJoin, pUpper, pIndex, pIndexT, pIsi, kindT, isSub, pLeA, pRev, pRevS, evSl0, evSlL, evSlH, evSlB, slD, big_s, Q.small, evAug, Dt.isNon, and_assoc, ite_nle, ite_nlt, ite_ile, ite_ilt, ite_nle', ite_nlt', ite_ile', ite_ilt', bif_ile, atI_getI h0 hx], hl _ (List.getElem_mem _)⟩
theorem ixN_in {n : Nat} {i : Int} (h0 : 0 ≤ i) (h1 : i < n) : ixN n i = some i.toNat := by
  unfold ixN
  rw [if_pos h0, if_pos (by omega)]
@[simp] theorem fz_str (l : List Nat) : (Dt.str l).fz = .str l := by simp only [Dt.fz]
theorem pool_spec (a b : Int) (S : List Ob) : ∃ N F a' b', rLPool [fdD a b] S = some (poD N F, [fdD a' b'], S) ∧ Pool N F := by
  obtain ⟨ws, a1, b1, e1, l1, N1⟩ := names_spec a b 8 (by decide) (by decide) S
  obtain ⟨r2, a2, b2, e2, h2, h2'⟩ := take_spec a1 b1 5 (by decide) (by decide) S
  obtain ⟨m3, e3, N, a3, b3, y, rfl, hN, hNl⟩ := forR0 (tg := tgN 3) (b := bLPool1) r2.toNat (fun _ m => ∃ (N : List (List Nat)) (a b : Int) (y : Option Dt), m = ⟨[some (fdD a b), some (.lst true (N.map .str)), some (.lst true (near.map .str)), y, none, none], S⟩ ∧ N.length = 8 ∧ ∀ w ∈ N, w.length ≤ 8)
    ⟨[some (fdD a2 b2), some (.lst true (ws.map .str)), some (.lst true (near.map .str)), none, none, none], S⟩ ⟨ws, a2, b2, none, rfl, by omega, fun w hw => by have := N1.len w hw; omega⟩ (by
      rintro i m hi ⟨N, a, b, y, rfl, hN, hNl⟩
      obtain ⟨k1, a1, b1, e1, h1, h1'⟩ := take_spec a b 19 (by decide) (by decide) S
      obtain ⟨k2, a2, b2, e2, h2, h2'⟩ := take_spec a1 b1 8 (by decide) (by decide) S
      obtain ⟨w, ew, hw⟩ := pick_o (o := true) h1 (by rw [near_len]; exact h1') near_ok
      have ix := ixN_in (n := 8) h2 h2'
      refine ⟨.nx, ⟨[some (fdD a2 b2), some (.lst true ((N.set k2.toNat w).map .str)), some (.lst true (near.map .str)), some (.int i), none, none], S⟩, ?_, .inl rfl, N.set k2.toNat w, a2, b2, _, rfl, by rw [List.length_set]; exact hN, fun v hv => ?_⟩
      · generalize near.map Dt.str = L at ew
        simp [bLPool1, fnRun, evSq, evIf, tstB, evPrim, evOms, evC, evVar, evMov, evAsg, tgN, tgT, tgL, tgsCons, tgsNil, evSetIx, evRet, evRetN, evDrop, evSkip, evCont, evPar, evSeq, evFz, evTru, tru, evAnd, evOr, evNot, evAndV, evOrV, evNotV, evChain, evChain2, evMut, muAppend, muPop, muExtend, muClear, evMeth, rfTy, Dt.ofTy, evMethT, evCall, clr, rfs, bput, backs, evFor, evRng1, evRng2, evItems, items, evComp, M.set, M.blank, blankR, rst, Q.small, evAug, and_assoc, e1, e2, ew, hN, ix, List.map_set]
      · rcases List.mem_or_eq_of_mem_set hv with z | z
        · exact hNl v z
        · rw [z]; exact hw)
  obtain ⟨vs, a4, b4, e4, l4, N4⟩ := names_spec a3 b3 4 (by decide) (by decide) S
  obtain ⟨m5, e5, ⟨x, rfl⟩⟩ := compF (js := [5]) (tg := tgN 5) (f := cLPool1) Dt.str (fun w => .str (capw w)) (fun m => ∃ x : Option Dt, m = ⟨[some (fdD a4 b4), some (.lst true (N.map .str)), some (.lst true (near.map .str)), y, none, x], S⟩) vs
    ⟨[some (fdD a4 b4), some (.lst true (N.map .str)), some (.lst true (near.map .str)), y, none, none], S⟩ ⟨none, rfl⟩ (by
      rintro w m hw ⟨x, rfl⟩
      have hl := N4.len w hw
      have hs := N4.small w hw
      have c1 := cut_len w none (some 1)
      have c2 := cut_len w (some 1) none
      have k1 : w.length ≤ 1000000 := by omega
      have k2 : (cutN w none (some 1)).length ≤ 1000000 := by omega
      have k3 : (cutN w none (some 1)).length + (cutN w (some 1) none).length ≤ 1000000 := by omega
      have k4 : (cutN w none (some 1)).all (fun c => decide (c < 128)) = true := by
        rw [List.all_eq_true]
        intro c hc
        have := hs c (cut_sub _ _ _ c hc)
        unfold L2.small at this
        simp; omega
      simp [cLPool1, fnRun, evSq, evIf, tstB, evPrim, evOms, evC, evVar, evMov, evAsg, tgN, tgT, tgL, tgsCons, tgsNil, evSetIx, evRet, evRetN, evDrop, evSkip, evCont, evPar, evSeq, evFz, evTru, tru, evAnd, evOr, evNot, evAndV, evOrV, evNotV, evChain, evChain2, evMut, muAppend, muPop, muExtend, muClear, evMeth, rfTy, Dt.ofTy, evMethT, evCall, clr, rfs, bput, backs, evFor, evRng1, evRng2, evItems, items, evComp, M.set, M.blank, blankR, rst, pInt2, pCmp2, pAdd, pMul, pNeg, pIdx, cpo, pLen, pEqN, pInN, sq, pIsN, pNotN, pTuple, pList, pAll, pAny, pSum, pMaxL, pMax2, pMin2, pIntC, pStrI, pJoin, pUpper, pIndex, pIndexT, pIsi, kindT, isSub, pLeA, pRev, pRevS, evSl0, evSlL, evSlH, evSlB, slD, big_s, Q.small, evAug, Dt.isNon, and_assoc, ite_nle, ite_nlt, ite_ile, ite_ilt, ite_nle', ite_nlt', ite_ile', ite_ilt', bif_ile, k1, k2, k3, k4, capw])
  obtain ⟨k6, a6, b6, e6, h6, h6'⟩ := take_spec a4 b4 5 (by decide) (by decide) S
  obtain ⟨k7, a7, b7, e7, h7, h7'⟩ := take_spec a6 b6 4 (by decide) (by decide) S
  obtain ⟨w, ew, hw⟩ := pick_o (o := true) (N := [[76, 101, 116], [73, 110, 112, 117, 116, 115], [65, 98, 99, 100, 101, 102], [87, 111, 114, 108, 100], [90]]) h6 h6' (by decide)
  have ix := ixN_in (n := 4) h7 h7'
  have hv4 : vs.length = 4 := by omega
  refine ⟨N, (vs.map capw).set k7.toNat w, a7, b7, ?_, ⟨hN, by rw [List.length_set, List.length_map]; exact hv4, hNl, fun v hv => ?_⟩⟩
  · have g1 : -1000000000 ≤ r2 ∧ r2 ≤ 1000000000 := by omega
    have g2 : vs.length ≤ 1000000 := by omega
    have en : pAdd [.lst true [.str [108, 101, 116, 115], .str [108, 101, 116, 108, 101, 116], .str [100, 101, 102, 115], .str [116, 101, 108, 108, 115], .str [116, 101, 108, 108, 109, 101], .str [108, 111, 111, 112, 115], .str [108, 111, 111, 112, 101, 100], .str [112, 105, 99, 107, 115], .str [112, 105, 99, 107, 101, 114], .str [99, 97, 108, 108, 115], .str [99, 97, 108, 108, 101, 100]], .lst true [.str [119, 111, 114, 108, 100, 115], .str [115, 104, 97, 112, 101, 115], .str [105, 110, 112, 117, 116], .str [105, 110, 112, 117, 116, 120], .str [97, 98, 99, 100, 101, 102], .str [118, 119, 120, 121, 122], .str [105, 110, 108, 101, 116], .str [114, 101, 100, 101, 102]]] = some (.lst true (near.map .str)) := by simp [pAdd, near]
    generalize near.map Dt.str = L at e3 e5 en
    have c1 : ((vs.map fun w => Dt.str (capw w)).set k7.toNat (.str w)) = ((vs.map capw).set k7.toNat w).map Dt.str := by
      rw [show (vs.map fun w => Dt.str (capw w)) = (vs.map capw).map Dt.str by simp [List.map_map, Function.comp], ← List.map_set]
    have c0 : cps ((vs.map fun w => Dt.str (capw w)).set k7.toNat (.str w)) = true := by rw [c1]; exact cps_str _
    simp at ew
    simp [rLPool, fnRun, evSq, evIf, tstB, evPrim, evOms, evC, evVar, evMov, evAsg, tgN, tgT, tgL, tgsCons, tgsNil, evSetIx, evRet, evRetN, evDrop, evSkip, evCont, evPar, evSeq, evFz, evTru, tru, evAnd, evOr, evNot, evAndV, evOrV, evNotV, evChain, evChain2, evMut, muAppend, muPop, muExtend, muClear, evMeth, rfTy, Dt.ofTy, evMethT, evCall, clr, rfs, bput, backs, evFor, evRng1, evRng2, evItems, items, evComp, M.set, M.blank, blankR, rst, Q.small, evAug, and_assoc, e1, e2, e3, e4, e5, e6, e7, en, g1, g2, hv4, ix, ew, c0, fz_lst, poD, c1]
    exact fz_lst c0
  · rcases List.mem_or_eq_of_mem_set hv with z | z
    · obtain ⟨u, hu, rfl⟩ := List.mem_map.mp z
      rw [capw_len (N4.pos u hu)]
      have := N4.len u hu; omega
    · rw [z]; exact hw
end My
namespace My
open PySem L2 Q
def acD (p : List Nat × Int) : Dt := .tup [.str p.1, .int p.2]
def shD (F : List (List Nat)) (A : List (List Nat × Int)) : Dt := .tup [.tup (F.map .str), .tup (A.map acD)]
structure Shp (F : List (List Nat)) (A : List (List Nat × Int)) : Prop where
  f4 : F.length ≤ 4
  a4 : A.length ≤ 4
  fnd : F.Nodup
  and : (A.map (·.1)).Nodup
  reach : ∀ p ∈ A, p.2 = 1 ∨ p.2 = 2
  fl : ∀ w ∈ F, w.length ≤ 8
  al : ∀ p ∈ A, p.1.length ≤ 8
@[simp] theorem acD_cp (p : List Nat × Int) : (acD p).cp = true := by simp [acD]
@[simp] theorem acDs_cp (A : List (List Nat × Int)) : cps (A.map acD) = true := cps_map acD_cp A
@[simp] theorem shD_cp (F : List (List Nat)) (A : List (List Nat × Int)) : (shD F A).cp = true := by simp [shD]
theorem eight {r : Int} (h0 : 0 ≤ r) (h1 : r < 8) : ∃ v : Int, atI [Dt.int 1, .int 2, .int 3, .int 2, .int 3, .int 1, .int 2, .int 0] r = some (.int v) ∧ 0 ≤ v ∧ v ≤ 3 := by
  have : r = 0 ∨ r = 1 ∨ r = 2 ∨ r = 3 ∨ r = 4 ∨ r = 5 ∨ r = 6 ∨ r = 7 := by omega
  rcases this with z | z | z | z | z | z | z | z <;> (subst z; exact ⟨_, rfl, by decide, by decide⟩)
theorem shape_spec (a b : Int) (S : List Ob) : ∃ F A a' b', rLShape [fdD a b] S = some (shD F A, [fdD a' b'], S) ∧ Shp F A := by
  obtain ⟨ws, a1, b1, e1, l1, N1⟩ := names_spec a b 4 (by decide) (by decide) S
  obtain ⟨r2, a2, b2, e2, h2a, h2b⟩ := take_spec a1 b1 4 (by decide) (by decide) S
  obtain ⟨m3, ec, ⟨x, rfl⟩⟩ := compF (js := [5]) (tg := tgN 5) (f := cLShape1) Dt.str (fun w => .str (capw w)) (fun m => ∃ x : Option Dt, m = ⟨[some (fdD a2 b2), some (.lst true (ws.map .str)), none, none, none, x, none], S⟩) (ws.take r2.toNat)
    ⟨[some (fdD a2 b2), some (.lst true (ws.map .str)), none, none, none, none, none], S⟩ ⟨none, rfl⟩ (by
      rintro w m hw ⟨x, rfl⟩
      have hw' := List.mem_of_mem_take hw
      have hl := N1.len w hw'
      have hp := N1.pos w hw'
      have hs := N1.small w hw'
      have c1 := cut_len w none (some 1)
      have c2 := cut_len w (some 1) none
      have k1 : w.length ≤ 1000000 := by omega
      have k2 : (cutN w none (some 1)).length ≤ 1000000 := by omega
      have k3 : (cutN w none (some 1)).length + (cutN w (some 1) none).length ≤ 1000000 := by omega
      have k4 : (cutN w none (some 1)).all (fun c => decide (c < 128)) = true := by
        rw [List.all_eq_true]
        intro c hc
        have := hs c (cut_sub _ _ _ c hc)
        unfold L2.small at this
        simp; omega
      simp [cLShape1, fnRun, evSq, evIf, tstB, evPrim, evOms, evC, evVar, evMov, evAsg, tgN, tgT, tgL, tgsCons, tgsNil, evSetIx, evRet, evRetN, evDrop, evSkip, evCont, evPar, evSeq, evFz, evTru, tru, evAnd, evOr, evNot, evAndV, evOrV, evNotV, evChain, evChain2, evMut, muAppend, muPop, muExtend, muClear, evMeth, rfTy, Dt.ofTy, evMethT, evCall, clr, rfs, bput, backs, evFor, evRng1, evRng2, evItems, items, evComp, M.set, M.blank, blankR, rst, pInt2, pCmp2, pAdd, pMul, pNeg, pIdx, cpo, pLen, pEqN, pInN, sq, pIsN, pNotN, pTuple, pList, pAll, pAny, pSum, pMaxL, pMax2, pMin2, pIntC, pStrI, pJoin, pUpper, pIndex, pIndexT, pIsi, kindT, isSub, pLeA, pRev, pRevS, evSl0, evSlL, evSlH, evSlB, slD, big_s, Q.small, evAug, Dt.isNon, and_assoc, ite_nle, ite_nlt, ite_ile, ite_ilt, ite_nle', ite_nlt', ite_ile', ite_ilt', bif_ile, k1, k2, k3, k4, capw])
  obtain ⟨vs, a3, b3, e3, l3, N3⟩ := names_spec a2 b2 3 (by decide) (by decide) S
  obtain ⟨r4, a4, b4, e4, h4a, h4b⟩ := take_spec a3 b3 8 (by decide) (by decide) S
  obtain ⟨v, ev, hv0, hv4⟩ := eight h4a h4b
  obtain ⟨A, m5, ea, ⟨a5, b5, x6, rfl⟩, al, ar⟩ := compR0 (js := [6]) (tg := tgN 6) (f := cLShape2) acD v.toNat
    (fun _ m => ∃ (a b : Int) (x : Option Dt), m = ⟨[some (fdD a b), some (.lst true (ws.map .str)), some (.lst true ((ws.take r2.toNat).map (fun w => .str (capw w)))), some (.lst true (vs.map .str)), none, none, x], S⟩) (fun i p => vs[i]? = some p.1 ∧ (p.2 = 1 ∨ p.2 = 2))
    ⟨[some (fdD a4 b4), some (.lst true (ws.map .str)), some (.lst true ((ws.take r2.toNat).map (fun w => .str (capw w)))), some (.lst true (vs.map .str)), none, none, none], S⟩ ⟨a4, b4, none, rfl⟩ (by
      rintro i m hi ⟨a, b, x, rfl⟩
      obtain ⟨r, a', b', e, h1, h2⟩ := take_spec a b 2 (by decide) (by decide) S
      have hv := List.getElem?_eq_getElem (l := vs) (i := i) (by omega)
      generalize vs[i]'(by omega) = w at hv
      refine ⟨(w, 1 + r), _, ?_, ⟨a', b', some (.int i), rfl⟩, hv, by simp; omega⟩
      simp [cLShape2, fnRun, evSq, evIf, tstB, evPrim, evOms, evC, evVar, evMov, evAsg, tgN, tgT, tgL, tgsCons, tgsNil, evSetIx, evRet, evRetN, evDrop, evSkip, evCont, evPar, evSeq, evFz, evTru, tru, evAnd, evOr, evNot, evAndV, evOrV, evNotV, evChain, evChain2, evMut, muAppend, muPop, muExtend, muClear, evMeth, rfTy, Dt.ofTy, evMethT, evCall, clr, rfs, bput, backs, evFor, evRng1, evRng2, evItems, items, evComp, M.set, M.blank, blankR, rst, pInt2, pCmp2, pAdd, pMul, pNeg, pIdx, cpo, pLen, pEqN, pInN, sq, pIsN, pNotN, pTuple, pList, pAll, pAny, pSum, pMaxL, pMax2, pMin2, pIntC, pStrI, pJoin, pUpper, pIndex, pIndexT, pIsi, kindT, isSub, pLeA, pRev, pRevS, evSl0, evSlL, evSlH, evSlB, slD, big_s, Q.small, evAug, Dt.isNon, and_assoc, ite_nle, ite_nlt, ite_ile, ite_ilt, ite_nle', ite_nlt', ite_ile', ite_ilt', bif_ile, e, atI_some hv, acD])
  have g1 : -1000000000 ≤ v ∧ v ≤ 1000000000 := by omega
  have g2 : v.toNat ≤ 1000000 := by omega
  have g3 : ws.length ≤ 1000000 := by omega
  have g4 : min r2.toNat ws.length ≤ 1000000 := by omega
  have c0 : cps ((ws.take r2.toNat).map fun w => Dt.str (capw w)) = true := cps_map (fun _ => rfl) _
  refine ⟨(ws.take r2.toNat).map capw, A, a5, b5, ?_, ?_⟩
  · unfold rLShape
    simp [fnRun, evSq, evIf, tstB, evPrim, evOms, evC, evVar, evMov, evAsg, tgN, tgT, tgL, tgsCons, tgsNil, evSetIx, evRet, evRetN, evDrop, evSkip, evCont, evPar, evSeq, evFz, evTru, tru, evAnd, evOr, evNot, evAndV, evOrV, evNotV, evChain, evChain2, evMut, muAppend, muPop, muExtend, muClear, evMeth, rfTy, Dt.ofTy, evMethT, evCall, clr, rfs, bput, backs, evFor, evRng1, evRng2, evItems, items, evComp, M.set, M.blank, blankR, rst, pInt2, pCmp2, pAdd, pMul, pNeg, pIdx, cpo, pLen, pEqN, pInN, sq, pIsN, pNotN, pTuple, pList, pAll, pAny, pSum, pMaxL, pMax2, pMin2, pIntC, pStrI, pJoin, pUpper, pIndex, pIndexT, pIsi, kindT, isSub, pLeA, pRev, pRevS, evSl0, evSlL, evSlH, evSlB, slD, big_s, Q.small, evAug, Dt.isNon, and_assoc, ite_nle, ite_nlt, ite_ile, ite_ilt, ite_nle', ite_nlt', ite_ile', ite_ilt', bif_ile, e1, e2, cutA_to, h2a, ← List.map_take, ec, e3, e4, ev, ea, g1, g2, g3, g4, c0, shD]
  · refine ⟨by rw [List.length_map, List.length_take]; omega, by omega, ?_, ?_, ?_, ?_, ?_⟩
    · exact cap_nodup (names_sub N1 (List.take_sublist _ _))
    · apply nodup_get
      intro i j w hij hi hj
      rw [List.getElem?_map] at hi hj
      obtain ⟨p, hp, rfl⟩ := Option.map_eq_some_iff.mp hi
      obtain ⟨q, hq, e⟩ := Option.map_eq_some_iff.mp hj
      have := nodup_ne N3.nd hij (ar j q hq).1 (ar i p hp).1
      exact this e.symm
    · exact all_get fun i p hp => (ar i p hp).2
    · intro v hv
      obtain ⟨u, hu, rfl⟩ := List.mem_map.mp hv
      have hu' := List.mem_of_mem_take hu
      rw [capw_len (N1.pos u hu')]
      have := N1.len u hu'; omega
    · exact all_get fun i p hp => by
        have := N3.len p.1 (List.mem_of_getElem? (ar i p hp).1); omega
def deedT (p : List Nat × Int) : List Nat := p.1 ++ [47] ++ figs p.2
def shWords (F : List (List Nat)) (A : List (List Nat × Int)) : List (List Nat) := [115, 104, 97, 112, 101] :: F ++ [[124]] ++ A.map deedT
def shT (F : List (List Nat)) (A : List (List Nat × Int)) : List Nat := jn [32] (shWords F A)
structure ShT (F : List (List Nat)) (A : List (List Nat × Int)) : Prop where
  f4 : F.length ≤ 4
  a4 : A.length ≤ 4
  reach : ∀ p ∈ A, p.2 = 1 ∨ p.2 = 2
  fl : ∀ w ∈ F, w.length ≤ 8
  al : ∀ p ∈ A, p.1.length ≤ 8
theorem sum_le_mul {l : List (List Nat)} {c : Nat} (h : ∀ w ∈ l, w.length ≤ c) : (l.map List.length).sum ≤ l.length * c := by
  induction l with
  | nil => simp
  | cons w l ih =>
    have h1 := h w List.mem_cons_self
    have h2 := ih fun x hx => h x (List.mem_cons_of_mem _ hx)
    rw [List.map_cons, List.sum_cons, List.length_cons, Nat.add_mul]; omega
theorem deed_len {p : List Nat × Int} (h1 : p.2 = 1 ∨ p.2 = 2) (h2 : p.1.length ≤ 8) : (deedT p).length ≤ 20 ∧ (figs p.2).length ≤ 8 := by
  have : (figs p.2).length ≤ 8 := figs_len (by omega) (by omega)
  unfold deedT
  refine ⟨?_, this⟩
  simp; omega
theorem join_sh {F : List (List Nat)} {A : List (List Nat × Int)} (sh : ShT F A) : pJoin [.str [32], .lst true ((shWords F A).map .str)] = some (.str (shT F A)) := by
  unfold pJoin
  simp only [strsD_map]
  rw [if_pos]
  · rfl
  · have hl : (shWords F A).length ≤ 10 := by unfold shWords; have := sh.f4; have := sh.a4; simp; omega
    have hs := sum_le_mul (l := shWords F A) (c := 20) fun w hw => by
      unfold shWords at hw
      rcases List.mem_append.mp hw with hw | hw
      · rcases List.mem_append.mp hw with hw | hw
        · rcases List.mem_cons.mp hw with rfl | hw
          · decide
          · have := sh.fl w hw; omega
        · rw [List.mem_singleton.mp hw]; decide
      · obtain ⟨p, hp, rfl⟩ := List.mem_map.mp hw
        exact (deed_len (sh.reach p hp) (sh.al p hp)).1
    have : (shWords F A).length * 20 ≤ 200 := by omega
    simp only [List.length_cons, List.length_nil]
    omega
theorem shtext_spec {F : List (List Nat)} {A : List (List Nat × Int)} (sh : ShT F A) (S : List Ob) : rShapeText [shD F A] S = some (.str (shT F A), [], S) := by
  have f4 := sh.f4
  have a4 := sh.a4
  obtain ⟨m, e, y2, y3, rfl⟩ := compF (js := [2, 3]) (tg := tgT (tgsCons (tgN 2) (tgsCons (tgN 3) tgsNil))) (f := cShapeText1) acD (fun p => .str (deedT p)) (fun m => ∃ y2 y3, m = (⟨[some (shD F A), none, y2, y3], S⟩ : M)) A ⟨[some (shD F A), none, none, none], S⟩ ⟨none, none, rfl⟩ (by
    rintro p m hp ⟨y2, y3, rfl⟩
    obtain ⟨d1, d2⟩ := deed_len (sh.reach p hp) (sh.al p hp)
    have h1 := sh.al p hp
    have k1 : p.1.length ≤ 1000000 := by omega
    have k2 : p.1.length + 1 ≤ 1000000 := by omega
    have k3 : p.1.length + 1 + (figs p.2).length ≤ 1000000 := by omega
    have k4 : p.2.natAbs < 18446744073709551616 := by have := sh.reach p hp; omega
    have k5 : p.1.length + ((figs p.2).length + 1) ≤ 1000000 := by omega
    refine ⟨⟨[some (shD F A), none, some (.str p.1), some (.int p.2)], S⟩, ?_, _, _, rfl⟩
    simp [cShapeText1, acD, fnRun, evSq, evIf, tstB, evPrim, evOms, evC, evVar, evMov, evAsg, tgN, tgT, tgL, tgsCons, tgsNil, evSetIx, evRet, evRetN, evDrop, evSkip, evCont, evPar, evSeq, evFz, evTru, tru, evAnd, evOr, evNot, evAndV, evOrV, evNotV, evChain, evChain2, evMut, muAppend, muPop, muExtend, muClear, evMeth, rfTy, Dt.ofTy, evMethT, evCall, clr, rfs, bput, backs, evFor, evRng1, evRng2, evItems, items, evComp, M.set, M.blank, blankR, rst, Q.small, evAug, and_assoc, evJ, evFmt, k1, k2, k3, k4, k5, deedT]
    omega)
  have i0 : pIdx [shD F A, .int 0] = some (.tup (F.map .str)) := by simp [fnRun, evSq, evIf, tstB, evPrim, evOms, evC, evVar, evMov, evAsg, tgN, tgT, tgL, tgsCons, tgsNil, evSetIx, evRet, evRetN, evDrop, evSkip, evCont, evPar, evSeq, evFz, evTru, tru, evAnd, evOr, evNot, evAndV, evOrV, evNotV, evChain, evChain2, evMut, muAppend, muPop, muExtend, muClear, evMeth, rfTy, Dt.ofTy, evMethT, evCall, clr, rfs, bput, backs, evFor, evRng1, evRng2, evItems, items, evComp, M.set, M.blank, blankR, rst, pInt2, pCmp2, pAdd, pMul, pNeg, pIdx, cpo, pLen, pEqN, pInN, sq, pIsN, pNotN, pTuple, pList, pAll, pAny, pSum, pMaxL, pMax2, pMin2, pIntC, pStrI, pJoin, pUpper, pIndex, pIndexT, pIsi, kindT, isSub, pLeA, pRev, pRevS, evSl0, evSlL, evSlH, evSlB, slD, big_s, Q.small, evAug, Dt.isNon, and_assoc, ite_nle, ite_nlt, ite_ile, ite_ilt, ite_nle', ite_nlt', ite_ile', ite_ilt', bif_ile, shD]
  have i1 : pIdx [shD F A, .int 1] = some (.tup (A.map acD)) := by simp [fnRun, evSq, evIf, tstB, evPrim, evOms, evC, evVar, evMov, evAsg, tgN, tgT, tgL, tgsCons, tgsNil, evSetIx, evRet, evRetN, evDrop, evSkip, evCont, evPar, evSeq, evFz, evTru, tru, evAnd, evOr, evNot, evAndV, evOrV, evNotV, evChain, evChain2, evMut, muAppend, muPop, muExtend, muClear, evMeth, rfTy, Dt.ofTy, evMethT, evCall, clr, rfs, bput, backs, evFor, evRng1, evRng2, evItems, items, evComp, M.set, M.blank, blankR, rst, pInt2, pCmp2, pAdd, pMul, pNeg, pIdx, cpo, pLen, pEqN, pInN, sq, pIsN, pNotN, pTuple, pList, pAll, pAny, pSum, pMaxL, pMax2, pMin2, pIntC, pStrI, pJoin, pUpper, pIndex, pIndexT, pIsi, kindT, isSub, pLeA, pRev, pRevS, evSl0, evSlL, evSlH, evSlB, slD, big_s, Q.small, evAug, Dt.isNon, and_assoc, ite_nle, ite_nlt, ite_ile, ite_ilt, ite_nle', ite_nlt', ite_ile', ite_ilt', bif_ile, shD]
  have c1 : cps (A.map fun p => Dt.str (deedT p)) = true := cps_map (fun _ => rfl) A
  have p1 : pAdd [.lst true [.str [115, 104, 97, 112, 101]], .lst true (F.map .str)] = some (.lst true ([.str [115, 104, 97, 112, 101]] ++ F.map .str)) := pAdd_lst (by simp; omega) (by simp) (by simp)
  have p2 : pAdd [.lst true ([.str [115, 104, 97, 112, 101]] ++ F.map .str), .lst true [.str [124]]] = some (.lst true ([.str [115, 104, 97, 112, 101]] ++ F.map .str ++ [.str [124]])) := pAdd_lst (by simp; omega) (by simp) (by simp)
  have p3 : pAdd [.lst true ([.str [115, 104, 97, 112, 101]] ++ F.map .str ++ [.str [124]]), .lst true (A.map fun p => .str (deedT p))] = some (.lst true ((shWords F A).map .str)) := by
    rw [pAdd_lst (by simp; omega) (by simp) c1]
    congr 2
    unfold shWords
    simp [List.map_map, Function.comp]
  have p4 : pList [.tup (F.map .str)] = some (.lst true (F.map .str)) := by simp [pList]
  have j := join_sh sh
  have g1 : A.length ≤ 1000000 := by omega
  simp at p1 p2 p3
  simp [rShapeText, fnRun, evSq, evIf, tstB, evPrim, evOms, evC, evVar, evMov, evAsg, tgN, tgT, tgL, tgsCons, tgsNil, evSetIx, evRet, evRetN, evDrop, evSkip, evCont, evPar, evSeq, evFz, evTru, tru, evAnd, evOr, evNot, evAndV, evOrV, evNotV, evChain, evChain2, evMut, muAppend, muPop, muExtend, muClear, evMeth, rfTy, Dt.ofTy, evMethT, evCall, clr, rfs, bput, backs, evFor, evRng1, evRng2, evItems, items, evComp, M.set, M.blank, blankR, rst, Q.small, evAug, and_assoc, i0, i1, e, g1, p1, p2, p3, p4, j]
end My
namespace My
open PySem L2 Q
theorem shsaid_spec {F : List (List Nat)} {A : List (List Nat × Int)} (sh : ShT F A) (S : List Ob) : rLShapeSaid [shD F A] S = some (.str (shT F A), [], S) := by
  have f4 := sh.f4
  have a4 := sh.a4
  obtain ⟨m, e, y2, y3, rfl⟩ := compF (js := [2, 3]) (tg := tgT (tgsCons (tgN 2) (tgsCons (tgN 3) tgsNil))) (f := cLShapeSaid1) acD (fun p => .str (deedT p)) (fun m => ∃ y2 y3, m = (⟨[some (shD F A), some (.lst true ([.str [115, 104, 97, 112, 101]] ++ F.map .str ++ [.str [124]])), y2, y3], S⟩ : M)) A ⟨[some (shD F A), some (.lst true ([.str [115, 104, 97, 112, 101]] ++ F.map .str ++ [.str [124]])), none, none], S⟩ ⟨none, none, rfl⟩ (by
    rintro p m hp ⟨y2, y3, rfl⟩
    obtain ⟨d1, d2⟩ := deed_len (sh.reach p hp) (sh.al p hp)
    have h1 := sh.al p hp
    have k2 : p.1.length + 1 ≤ 1000000 := by omega
    have k3 : p.1.length + 1 + (figs p.2).length ≤ 1000000 := by omega
    have k4 : p.2.natAbs < 18446744073709551616 := by have := sh.reach p hp; omega
    refine ⟨⟨[some (shD F A), some (.lst true ([.str [115, 104, 97, 112, 101]] ++ F.map .str ++ [.str [124]])), some (.str p.1), some (.int p.2)], S⟩, ?_, _, _, rfl⟩
    simp [cLShapeSaid1, acD, fnRun, evSq, evIf, tstB, evPrim, evOms, evC, evVar, evMov, evAsg, tgN, tgT, tgL, tgsCons, tgsNil, evSetIx, evRet, evRetN, evDrop, evSkip, evCont, evPar, evSeq, evFz, evTru, tru, evAnd, evOr, evNot, evAndV, evOrV, evNotV, evChain, evChain2, evMut, muAppend, muPop, muExtend, muClear, evMeth, rfTy, Dt.ofTy, evMethT, evCall, clr, rfs, bput, backs, evFor, evRng1, evRng2, evItems, items, evComp, M.set, M.blank, blankR, rst, pInt2, pCmp2, pAdd, pMul, pNeg, pIdx, cpo, pLen, pEqN, pInN, sq, pIsN, pNotN, pTuple, pList, pAll, pAny, pSum, pMaxL, pMax2, pMin2, pIntC, pStrI, pJoin, pUpper, pIndex, pIndexT, pIsi, kindT, isSub, pLeA, pRev, pRevS, evSl0, evSlL, evSlH, evSlB, slD, big_s, Q.small, evAug, Dt.isNon, and_assoc, ite_nle, ite_nlt, ite_ile, ite_ilt, ite_nle', ite_nlt', ite_ile', ite_ilt', bif_ile, k2, k3, k4, deedT])
  have i0 : pIdx [shD F A, .int 0] = some (.tup (F.map .str)) := by simp [fnRun, evSq, evIf, tstB, evPrim, evOms, evC, evVar, evMov, evAsg, tgN, tgT, tgL, tgsCons, tgsNil, evSetIx, evRet, evRetN, evDrop, evSkip, evCont, evPar, evSeq, evFz, evTru, tru, evAnd, evOr, evNot, evAndV, evOrV, evNotV, evChain, evChain2, evMut, muAppend, muPop, muExtend, muClear, evMeth, rfTy, Dt.ofTy, evMethT, evCall, clr, rfs, bput, backs, evFor, evRng1, evRng2, evItems, items, evComp, M.set, M.blank, blankR, rst, pInt2, pCmp2, pAdd, pMul, pNeg, pIdx, cpo, pLen, pEqN, pInN, sq, pIsN, pNotN, pTuple, pList, pAll, pAny, pSum, pMaxL, pMax2, pMin2, pIntC, pStrI, pJoin, pUpper, pIndex, pIndexT, pIsi, kindT, isSub, pLeA, pRev, pRevS, evSl0, evSlL, evSlH, evSlB, slD, big_s, Q.small, evAug, Dt.isNon, and_assoc, ite_nle, ite_nlt, ite_ile, ite_ilt, ite_nle', ite_nlt', ite_ile', ite_ilt', bif_ile, shD]
  have i1 : pIdx [shD F A, .int 1] = some (.tup (A.map acD)) := by simp [fnRun, evSq, evIf, tstB, evPrim, evOms, evC, evVar, evMov, evAsg, tgN, tgT, tgL, tgsCons, tgsNil, evSetIx, evRet, evRetN, evDrop, evSkip, evCont, evPar, evSeq, evFz, evTru, tru, evAnd, evOr, evNot, evAndV, evOrV, evNotV, evChain, evChain2, evMut, muAppend, muPop, muExtend, muClear, evMeth, rfTy, Dt.ofTy, evMethT, evCall, clr, rfs, bput, backs, evFor, evRng1, evRng2, evItems, items, evComp, M.set, M.blank, blankR, rst, pInt2, pCmp2, pAdd, pMul, pNeg, pIdx, cpo, pLen, pEqN, pInN, sq, pIsN, pNotN, pTuple, pList, pAll, pAny, pSum, pMaxL, pMax2, pMin2, pIntC, pStrI, pJoin, pUpper, pIndex, pIndexT, pIsi, kindT, isSub, pLeA, pRev, pRevS, evSl0, evSlL, evSlH, evSlB, slD, big_s, Q.small, evAug, Dt.isNon, and_assoc, ite_nle, ite_nlt, ite_ile, ite_ilt, ite_nle', ite_nlt', ite_ile', ite_ilt', bif_ile, shD]
  have c1 : cps (A.map fun p => Dt.str (deedT p)) = true := cps_map (fun _ => rfl) A
  have p1 : pAdd [.lst true [.str [115, 104, 97, 112, 101]], .lst true (F.map .str)] = some (.lst true ([.str [115, 104, 97, 112, 101]] ++ F.map .str)) := pAdd_lst (by simp; omega) (by simp) (by simp)
  have p2 : pAdd [.lst true ([.str [115, 104, 97, 112, 101]] ++ F.map .str), .lst true [.str [124]]] = some (.lst true ([.str [115, 104, 97, 112, 101]] ++ F.map .str ++ [.str [124]])) := pAdd_lst (by simp; omega) (by simp) (by simp)
  have p3 : pAdd [.lst true ([.str [115, 104, 97, 112, 101]] ++ F.map .str ++ [.str [124]]), .lst true (A.map fun p => .str (deedT p))] = some (.lst true ((shWords F A).map .str)) := by
    rw [pAdd_lst (by simp; omega) (by simp) c1]
    congr 2
    unfold shWords
    simp [List.map_map, Function.comp]
  have p4 : pList [.tup (F.map .str)] = some (.lst true (F.map .str)) := by simp [pList]
  have j := join_sh sh
  have g1 : A.length ≤ 1000000 := by omega
  simp at p1 p2 p3 e
  simp [rLShapeSaid, fnRun, evSq, evIf, tstB, evPrim, evOms, evC, evVar, evMov, evAsg, tgN, tgT, tgL, tgsCons, tgsNil, evSetIx, evRet, evRetN, evDrop, evSkip, evCont, evPar, evSeq, evFz, evTru, tru, evAnd, evOr, evNot, evAndV, evOrV, evNotV, evChain, evChain2, evMut, muAppend, muPop, muExtend, muClear, evMeth, rfTy, Dt.ofTy, evMethT, evCall, clr, rfs, bput, backs, evFor, evRng1, evRng2, evItems, items, evComp, M.set, M.blank, blankR, rst, Q.small, evAug, and_assoc, i0, i1, e, g1, p1, p2, p3, p4, j]
theorem law_inner {F : List (List Nat)} {A : List (List Nat × Int)} (sh : ShT F A) {r : Row} {h : Nat} (hr : TmH h r) (hh : h ≤ 100) (hn : r.n ≤ 100000) (x0 x1 x2 x4 x6 x7 : Option Dt) (i : Nat) : ∃ y, (tgN 6 (.int (i : Nat)) ⟨[x0, x1, x2, some (shD F A), x4, some r.d, x6, x7], []⟩).bind bLaw1 = some (.nx, ⟨[x0, x1, x2, some (shD F A), x4, some r.d, some (.int i), y], []⟩) := by
  have rc := (TmH.both _ r hr).1
  have e1 := text_spec hr hn []
  have e2 := said_spec h r hr hn 100 hh []
  have e3 := shtext_spec sh []
  have e4 := shsaid_spec sh []
  have s1 := isi_str r.z
  have s2 := isi_str (shT F A)
  have n1 : ∀ z : List Nat, pNe [.str z, .str z] = some (.bl false) := fun z => by simp [fnRun, evSq, evIf, tstB, evPrim, evOms, evC, evVar, evMov, evAsg, tgN, tgT, tgL, tgsCons, tgsNil, evSetIx, evRet, evRetN, evDrop, evSkip, evCont, evPar, evSeq, evFz, evTru, tru, evAnd, evOr, evNot, evAndV, evOrV, evNotV, evChain, evChain2, evMut, muAppend, muPop, muExtend, muClear, evMeth, rfTy, Dt.ofTy, evMethT, evCall, clr, rfs, bput, backs, evFor, evRng1, evRng2, evItems, items, evComp, M.set, M.blank, blankR, rst, pInt2, pCmp2, pAdd, pMul, pNeg, pIdx, cpo, pLen, pEqN, pInN, sq, pIsN, pNotN, pTuple, pList, pAll, pAny, pSum, pMaxL, pMax2, pMin2, pIntC, pStrI, pJoin, pUpper, pIndex, pIndexT, pIsi, kindT, isSub, pLeA, pRev, pRevS, evSl0, evSlL, evSlH, evSlB, slD, big_s, Q.small, evAug, Dt.isNon, and_assoc, ite_nle, ite_nlt, ite_ile, ite_ilt, ite_nle', ite_nlt', ite_ile', ite_ilt', bif_ile]
  refine ⟨some (.str (shT F A)), ?_⟩
  simp [bLaw1, fnRun, evSq, evIf, tstB, evPrim, evOms, evC, evVar, evMov, evAsg, tgN, tgT, tgL, tgsCons, tgsNil, evSetIx, evRet, evRetN, evDrop, evSkip, evCont, evPar, evSeq, evFz, evTru, tru, evAnd, evOr, evNot, evAndV, evOrV, evNotV, evChain, evChain2, evMut, muAppend, muPop, muExtend, muClear, evMeth, rfTy, Dt.ofTy, evMethT, evCall, clr, rfs, bput, backs, evFor, evRng1, evRng2, evItems, items, evComp, M.set, M.blank, blankR, rst, Q.small, evAug, and_assoc, e1, e2, e3, e4, s1, s2, n1, rc]
theorem law_true (ns : List Int) (hl : ns.length ≤ 63) : rLaw [.scr ns] [] = some (.bl true, [], []) := by
  obtain ⟨a, b, f0⟩ := feed_spec ns 0 (by decide) []
  obtain ⟨a', b', f1⟩ := feed_spec ns 1 (by decide) []
  obtain ⟨N, Fx, a1, b1, e1, P⟩ := pool_spec a b []
  obtain ⟨F, A, a2, b2, e2, sh0⟩ := shape_spec a' b' []
  have sh : ShT F A := ⟨sh0.f4, sh0.a4, sh0.reach, sh0.fl, sh0.al⟩
  obtain ⟨m, e3, a3, b3, x4, x5, x6, x7, rfl⟩ := forR0 (tg := tgN 4) (b := bLaw2) 3 (fun _ m => ∃ (a b : Int) (x4 x5 x6 x7 : Option Dt), m = (⟨[some (.scr ns), some (fdD a b), some (poD N Fx), some (shD F A), x4, x5, x6, x7], []⟩ : M)) ⟨[some (.scr ns), some (fdD a1 b1), some (poD N Fx), some (shD F A), none, none, none, none], []⟩ ⟨a1, b1, none, none, none, none, rfl⟩ (by
    rintro i m hi ⟨a, b, x4, x5, x6, x7, rfl⟩
    obtain ⟨k, a4, b4, e4, h4, h4'⟩ := take_spec a b 60 (by decide) (by decide) []
    obtain ⟨r, a5, b5, e5, t5, n5⟩ := (draw_spec P [] 30).1.h (1 + k) 9 a4 b4 (by omega) (by omega) (by decide) (by decide) (by decide)
    have q1 : pAdd [.int 1, .int k] = some (.int (1 + k)) := rfl
    obtain ⟨m6, e6, y6, y7, rfl⟩ := forR0 (tg := tgN 6) (b := bLaw1) 2 (fun _ m => ∃ (x6 x7 : Option Dt), m = (⟨[some (.scr ns), some (fdD a5 b5), some (poD N Fx), some (shD F A), some (.int i), some r.d, x6, x7], []⟩ : M)) ⟨[some (.scr ns), some (fdD a5 b5), some (poD N Fx), some (shD F A), some (.int i), some r.d, x6, x7], []⟩ ⟨x6, x7, rfl⟩ (by
      rintro j m hj ⟨x6, x7, rfl⟩
      obtain ⟨y, e⟩ := law_inner sh t5 (by decide) (by omega) (some (.scr ns)) (some (fdD a5 b5)) (some (poD N Fx)) (some (.int i)) x6 x7 j
      exact ⟨_, _, e, .inl rfl, _, _, rfl⟩)
    refine ⟨.nx, ⟨[some (.scr ns), some (fdD a5 b5), some (poD N Fx), some (shD F A), some (.int i), some r.d, y6, y7], []⟩, ?_, .inl rfl, a5, b5, _, _, _, _, rfl⟩
    simp [bLaw2, fnRun, evSq, evIf, tstB, evPrim, evOms, evC, evVar, evMov, evAsg, tgN, tgT, tgL, tgsCons, tgsNil, evSetIx, evRet, evRetN, evDrop, evSkip, evCont, evPar, evSeq, evFz, evTru, tru, evAnd, evOr, evNot, evAndV, evOrV, evNotV, evChain, evChain2, evMut, muAppend, muPop, muExtend, muClear, evMeth, rfTy, Dt.ofTy, evMethT, evCall, clr, rfs, bput, backs, evFor, evRng1, evRng2, evItems, items, evComp, M.set, M.blank, blankR, rst, Q.small, evAug, and_assoc, e4, e5, q1, e6])
  have v1 : ShT [] [] := ⟨by simp, by simp, by simp, by simp, by simp⟩
  have v2 : ShT [[65]] [] := ⟨by simp, by simp, by simp, by simp, by simp⟩
  have w1 : rShapeText [.tup [.tup [], .tup []]] [] = some (.str [115, 104, 97, 112, 101, 32, 124], [], []) := shtext_spec v1 []
  have w2 : rShapeText [.tup [.tup [.str [65]], .tup []]] [] = some (.str [115, 104, 97, 112, 101, 32, 65, 32, 124], [], []) := shtext_spec v2 []
  have n1 : ∀ z : List Nat, pEq [.str z, .str z] = some (.bl true) := fun z => by simp [fnRun, evSq, evIf, tstB, evPrim, evOms, evC, evVar, evMov, evAsg, tgN, tgT, tgL, tgsCons, tgsNil, evSetIx, evRet, evRetN, evDrop, evSkip, evCont, evPar, evSeq, evFz, evTru, tru, evAnd, evOr, evNot, evAndV, evOrV, evNotV, evChain, evChain2, evMut, muAppend, muPop, muExtend, muClear, evMeth, rfTy, Dt.ofTy, evMethT, evCall, clr, rfs, bput, backs, evFor, evRng1, evRng2, evItems, items, evComp, M.set, M.blank, blankR, rst, pInt2, pCmp2, pAdd, pMul, pNeg, pIdx, cpo, pLen, pEqN, pInN, sq, pIsN, pNotN, pTuple, pList, pAll, pAny, pSum, pMaxL, pMax2, pMin2, pIntC, pStrI, pJoin, pUpper, pIndex, pIndexT, pIsi, kindT, isSub, pLeA, pRev, pRevS, evSl0, evSlL, evSlH, evSlB, slD, big_s, Q.small, evAug, Dt.isNon, and_assoc, ite_nle, ite_nlt, ite_ile, ite_ilt, ite_nle', ite_nlt', ite_ile', ite_ilt', bif_ile]
  have e3' : forL (tgN 4) bLaw2 [.int 0, .int 1, .int 2] ⟨[some (.scr ns), some (fdD a1 b1), some (poD N Fx), some (shD F A), none, none, none, none], []⟩ = some (.nx, ⟨[some (.scr ns), some (fdD a3 b3), some (poD N Fx), some (shD F A), x4, x5, x6, x7], []⟩) := e3
  simp [rLaw, fnRun, evSq, evIf, tstB, evPrim, evOms, evC, evVar, evMov, evAsg, tgN, tgT, tgL, tgsCons, tgsNil, evSetIx, evRet, evRetN, evDrop, evSkip, evCont, evPar, evSeq, evFz, evTru, tru, evAnd, evOr, evNot, evAndV, evOrV, evNotV, evChain, evChain2, evMut, muAppend, muPop, muExtend, muClear, evMeth, rfTy, Dt.ofTy, evMethT, evCall, clr, rfs, bput, backs, evFor, evRng1, evRng2, evItems, items, evComp, M.set, M.blank, blankR, rst, Q.small, evAug, and_assoc, f0, f1, e1, e2, e3', e3, w1, w2, n1]
end My
namespace My
open PySem L2 Q
theorem all_mk {l : PySem.W.OpenLaw} {w : World} {K : PySem.W.Frag} {h : Heap} {mg : Str → Option Value} {fa f1 f2 f3 f4 f5 f6 f7 f8 f9 f10 f11 f12 f13 f14 f15 f16 f17 f18 : Addr} (X : K.In h) (G : h.Ns mainGlobals mg) (hfa : mg "law" = some (.ref fa))
    {od1 an1 od2 an2 od3 an3 od4 an4 od5 an5 od6 an6 od7 an7 od8 an8 od9 an9 od10 an10 od11 an11 od12 an12 od13 an13 od14 an14 od15 an15 od16 an16 od17 an17 od18 an18 : Option Addr} {sl1 sl2 sl3 sl4 sl5 sl6 sl7 sl8 sl9 sl10 sl11 sl12 sl13 sl14 sl15 sl16 sl17 sl18 : Array (Option Value)} {oc1 kV1 dc1 pm1 cd1 ct1 oc2 kV2 dc2 pm2 cd2 ct2 oc3 kV3 dc3 pm3 cd3 ct3 oc4 kV4 dc4 pm4 cd4 ct4 oc5 kV5 dc5 pm5 cd5 ct5 oc6 kV6 dc6 pm6 cd6 ct6 oc7 kV7 dc7 pm7 cd7 ct7 oc8 kV8 dc8 pm8 cd8 ct8 oc9 kV9 dc9 pm9 cd9 ct9 oc10 kV10 dc10 pm10 cd10 ct10 oc11 kV11 dc11 pm11 cd11 ct11 oc12 kV12 dc12 pm12 cd12 ct12 oc13 kV13 dc13 pm13 cd13 ct13 oc14 kV14 dc14 pm14 cd14 ct14 oc15 kV15 dc15 pm15 cd15 ct15 oc16 kV16 dc16 pm16 cd16 ct16 oc17 kV17 dc17 pm17 cd17 ct17 oc18 kV18 dc18 pm18 cd18 ct18 : Value}
    (a1 : PySem.W.nsIn K mainGlobals "_law_feed" = some (some (.ref f1))) (l1 : K.lookup f1 = some ⟨oc1, od1, .func (PySem.W.fnOf "_law_feed" "_law_feed" (defArgs sLFeed) (defBody sLFeed) (defScope sLFeed) .none kV1 dc1 pm1 an1 cd1 ct1), sl1⟩) (c1 : PySem.W.codeIn K cd1 "_law_feed" = true) (k1 : PySem.W.keepIn K (.ref f1) = true)
    (a2 : PySem.W.nsIn K mainGlobals "_law_take" = some (some (.ref f2))) (l2 : K.lookup f2 = some ⟨oc2, od2, .func (PySem.W.fnOf "_law_take" "_law_take" (defArgs sLTake) (defBody sLTake) (defScope sLTake) .none kV2 dc2 pm2 an2 cd2 ct2), sl2⟩) (c2 : PySem.W.codeIn K cd2 "_law_take" = true) (k2 : PySem.W.keepIn K (.ref f2) = true)
    (a3 : PySem.W.nsIn K mainGlobals "_law_names" = some (some (.ref f3))) (l3 : K.lookup f3 = some ⟨oc3, od3, .func (PySem.W.fnOf "_law_names" "_law_names" (defArgs sLNames) (defBody sLNames) (defScope sLNames) .none kV3 dc3 pm3 an3 cd3 ct3), sl3⟩) (c3 : PySem.W.codeIn K cd3 "_law_names" = true) (k3 : PySem.W.keepIn K (.ref f3) = true)
    (a4 : PySem.W.nsIn K mainGlobals "_law_pool" = some (some (.ref f4))) (l4 : K.lookup f4 = some ⟨oc4, od4, .func (PySem.W.fnOf "_law_pool" "_law_pool" (defArgs sLPool) (defBody sLPool) (defScope sLPool) .none kV4 dc4 pm4 an4 cd4 ct4), sl4⟩) (c4 : PySem.W.codeIn K cd4 "_law_pool" = true) (k4 : PySem.W.keepIn K (.ref f4) = true)
    (a5 : PySem.W.nsIn K mainGlobals "_law_shape" = some (some (.ref f5))) (l5 : K.lookup f5 = some ⟨oc5, od5, .func (PySem.W.fnOf "_law_shape" "_law_shape" (defArgs sLShape) (defBody sLShape) (defScope sLShape) .none kV5 dc5 pm5 an5 cd5 ct5), sl5⟩) (c5 : PySem.W.codeIn K cd5 "_law_shape" = true) (k5 : PySem.W.keepIn K (.ref f5) = true)
    (a6 : PySem.W.nsIn K mainGlobals "_law_number" = some (some (.ref f6))) (l6 : K.lookup f6 = some ⟨oc6, od6, .func (PySem.W.fnOf "_law_number" "_law_number" (defArgs sLNumber) (defBody sLNumber) (defScope sLNumber) .none kV6 dc6 pm6 an6 cd6 ct6), sl6⟩) (c6 : PySem.W.codeIn K cd6 "_law_number" = true) (k6 : PySem.W.keepIn K (.ref f6) = true)
    (a7 : PySem.W.nsIn K mainGlobals "_law_leaf" = some (some (.ref f7))) (l7 : K.lookup f7 = some ⟨oc7, od7, .func (PySem.W.fnOf "_law_leaf" "_law_leaf" (defArgs sLLeaf) (defBody sLLeaf) (defScope sLLeaf) .none kV7 dc7 pm7 an7 cd7 ct7), sl7⟩) (c7 : PySem.W.codeIn K cd7 "_law_leaf" = true) (k7 : PySem.W.keepIn K (.ref f7) = true)
    (a8 : PySem.W.nsIn K mainGlobals "_law_row" = some (some (.ref f8))) (l8 : K.lookup f8 = some ⟨oc8, od8, .func (PySem.W.fnOf "_law_row" "_law_row" (defArgs sLRow) (defBody sLRow) (defScope sLRow) .none kV8 dc8 pm8 an8 cd8 ct8), sl8⟩) (c8 : PySem.W.codeIn K cd8 "_law_row" = true) (k8 : PySem.W.keepIn K (.ref f8) = true)
    (a9 : PySem.W.nsIn K mainGlobals "_law_args" = some (some (.ref f9))) (l9 : K.lookup f9 = some ⟨oc9, od9, .func (PySem.W.fnOf "_law_args" "_law_args" (defArgs sLArgs) (defBody sLArgs) (defScope sLArgs) .none kV9 dc9 pm9 an9 cd9 ct9), sl9⟩) (c9 : PySem.W.codeIn K cd9 "_law_args" = true) (k9 : PySem.W.keepIn K (.ref f9) = true)
    (a10 : PySem.W.nsIn K mainGlobals "_law_term" = some (some (.ref f10))) (l10 : K.lookup f10 = some ⟨oc10, od10, .func (PySem.W.fnOf "_law_term" "_law_term" (defArgs sLTerm) (defBody sLTerm) (defScope sLTerm) .none kV10 dc10 pm10 an10 cd10 ct10), sl10⟩) (c10 : PySem.W.codeIn K cd10 "_law_term" = true) (k10 : PySem.W.keepIn K (.ref f10) = true)
    (a11 : PySem.W.nsIn K mainGlobals "bracketed" = some (some (.ref f11))) (l11 : K.lookup f11 = some ⟨oc11, od11, .func (PySem.W.fnOf "bracketed" "bracketed" (defArgs sBracketed) (defBody sBracketed) (defScope sBracketed) .none kV11 dc11 pm11 an11 cd11 ct11), sl11⟩) (c11 : PySem.W.codeIn K cd11 "bracketed" = true) (k11 : PySem.W.keepIn K (.ref f11) = true)
    (a12 : PySem.W.nsIn K mainGlobals "words_of" = some (some (.ref f12))) (l12 : K.lookup f12 = some ⟨oc12, od12, .func (PySem.W.fnOf "words_of" "words_of" (defArgs sWordsOf) (defBody sWordsOf) (defScope sWordsOf) .none kV12 dc12 pm12 an12 cd12 ct12), sl12⟩) (c12 : PySem.W.codeIn K cd12 "words_of" = true) (k12 : PySem.W.keepIn K (.ref f12) = true)
    (a13 : PySem.W.nsIn K mainGlobals "spread" = some (some (.ref f13))) (l13 : K.lookup f13 = some ⟨oc13, od13, .func (PySem.W.fnOf "spread" "spread" (defArgs sSpread) (defBody sSpread) (defScope sSpread) .none kV13 dc13 pm13 an13 cd13 ct13), sl13⟩) (c13 : PySem.W.codeIn K cd13 "spread" = true) (k13 : PySem.W.keepIn K (.ref f13) = true)
    (a14 : PySem.W.nsIn K mainGlobals "term_text" = some (some (.ref f14))) (l14 : K.lookup f14 = some ⟨oc14, od14, .func (PySem.W.fnOf "term_text" "term_text" (defArgs sTermText) (defBody sTermText) (defScope sTermText) .none kV14 dc14 pm14 an14 cd14 ct14), sl14⟩) (c14 : PySem.W.codeIn K cd14 "term_text" = true) (k14 : PySem.W.keepIn K (.ref f14) = true)
    (a15 : PySem.W.nsIn K mainGlobals "_law_said" = some (some (.ref f15))) (l15 : K.lookup f15 = some ⟨oc15, od15, .func (PySem.W.fnOf "_law_said" "_law_said" (defArgs sLSaid) (defBody sLSaid) (defScope sLSaid) .none kV15 dc15 pm15 an15 cd15 ct15), sl15⟩) (c15 : PySem.W.codeIn K cd15 "_law_said" = true) (k15 : PySem.W.keepIn K (.ref f15) = true)
    (a16 : PySem.W.nsIn K mainGlobals "shape_text" = some (some (.ref f16))) (l16 : K.lookup f16 = some ⟨oc16, od16, .func (PySem.W.fnOf "shape_text" "shape_text" (defArgs sShapeText) (defBody sShapeText) (defScope sShapeText) .none kV16 dc16 pm16 an16 cd16 ct16), sl16⟩) (c16 : PySem.W.codeIn K cd16 "shape_text" = true) (k16 : PySem.W.keepIn K (.ref f16) = true)
    (a17 : PySem.W.nsIn K mainGlobals "_law_shape_said" = some (some (.ref f17))) (l17 : K.lookup f17 = some ⟨oc17, od17, .func (PySem.W.fnOf "_law_shape_said" "_law_shape_said" (defArgs sLShapeSaid) (defBody sLShapeSaid) (defScope sLShapeSaid) .none kV17 dc17 pm17 an17 cd17 ct17), sl17⟩) (c17 : PySem.W.codeIn K cd17 "_law_shape_said" = true) (k17 : PySem.W.keepIn K (.ref f17) = true)
    (a18 : PySem.W.nsIn K mainGlobals "law" = some (some (.ref f18))) (l18 : K.lookup f18 = some ⟨oc18, od18, .func (PySem.W.fnOf "law" "law" (defArgs sLaw) (defBody sLaw) (defScope sLaw) .none kV18 dc18 pm18 an18 cd18 ct18), sl18⟩) (c18 : PySem.W.codeIn K cd18 "law" = true) (k18 : PySem.W.keepIn K (.ref f18) = true)
    (z1 : PySem.W.nsIn K mainGlobals "len" = some none)
    (z2 : PySem.W.nsIn K mainGlobals "range" = some none)
    (z3 : PySem.W.nsIn K mainGlobals "tuple" = some none)
    (z4 : PySem.W.nsIn K mainGlobals "max" = some none)
    (z5 : PySem.W.nsIn K mainGlobals "min" = some none)
    (z6 : PySem.W.nsIn K mainGlobals "list" = some none)
    (z7 : PySem.W.nsIn K mainGlobals "str" = some none)
    (z8 : PySem.W.nsIn K mainGlobals "isinstance" = some none)
    (z9 : PySem.W.nsIn K mainGlobals "reversed" = some none)
    : ∃ fd : FuncData, (∀ (s : Shared) (v : Value), BindsTo s fd ⟨[v], []⟩ [("_law_script", v)]) ∧ ∀ base : Heap, K.In base → base.Ns mainGlobals mg → FnOk l.prog w K mg base CX0 104 fa fd ["_law_script"] (spLaw K) := by
  have e := hfa.symm.trans (PySem.W.mg_of X G a18)
  cases e
  have F1 := fun_mk (st := sLFeed) l1 c1 k1
  have F2 := fun_mk (st := sLTake) l2 c2 k2
  have F3 := fun_mk (st := sLNames) l3 c3 k3
  have F4 := fun_mk (st := sLPool) l4 c4 k4
  have F5 := fun_mk (st := sLShape) l5 c5 k5
  have F6 := fun_mk (st := sLNumber) l6 c6 k6
  have F7 := fun_mk (st := sLLeaf) l7 c7 k7
  have F8 := fun_mk (st := sLRow) l8 c8 k8
  have F9 := fun_mk (st := sLArgs) l9 c9 k9
  have F10 := fun_mk (st := sLTerm) l10 c10 k10
  have F11 := fun_mk (st := sBracketed) l11 c11 k11
  have F12 := fun_mk (st := sWordsOf) l12 c12 k12
  have F13 := fun_mk (st := sSpread) l13 c13 k13
  have F14 := fun_mk (st := sTermText) l14 c14 k14
  have F15 := fun_mk (st := sLSaid) l15 c15 k15
  have F16 := fun_mk (st := sShapeText) l16 c16 k16
  have F17 := fun_mk (st := sLShapeSaid) l17 c17 k17
  have F18 := fun_mk (st := sLaw) l18 c18 k18
  have m_len := PySem.W.mg_none_of X G z1
  have m_range := PySem.W.mg_none_of X G z2
  have m_tuple := PySem.W.mg_none_of X G z3
  have m_max := PySem.W.mg_none_of X G z4
  have m_min := PySem.W.mg_none_of X G z5
  have m_list := PySem.W.mg_none_of X G z6
  have m_str := PySem.W.mg_none_of X G z7
  have m_isinstance := PySem.W.mg_none_of X G z8
  have m_reversed := PySem.W.mg_none_of X G z9
  have b1 := F1.binds (ps := ["_law_script", "_law_k"]) fun _ _ _ _ _ _ us hl => match us, hl with | [_, _], _ => rfl
  have b2 := F2.binds (ps := ["_law_feed_here", "_law_many"]) fun _ _ _ _ _ _ us hl => match us, hl with | [_, _], _ => rfl
  have b3 := F3.binds (ps := ["_law_feed_here", "_law_many"]) fun _ _ _ _ _ _ us hl => match us, hl with | [_, _], _ => rfl
  have b4 := F4.binds (ps := ["_law_feed_here"]) fun _ _ _ _ _ _ us hl => match us, hl with | [_], _ => rfl
  have b5 := F5.binds (ps := ["_law_feed_here"]) fun _ _ _ _ _ _ us hl => match us, hl with | [_], _ => rfl
  have b6 := F6.binds (ps := ["_law_feed_here", "_law_pool_here", "_law_room"]) fun _ _ _ _ _ _ us hl => match us, hl with | [_, _, _], _ => rfl
  have b7 := F7.binds (ps := ["_law_feed_here", "_law_pool_here"]) fun _ _ _ _ _ _ us hl => match us, hl with | [_, _], _ => rfl
  have b8 := F8.binds (ps := ["_law_feed_here", "_law_pool_here", "_law_room", "_law_down", "_law_many"]) fun _ _ _ _ _ _ us hl => match us, hl with | [_, _, _, _, _], _ => rfl
  have b9 := F9.binds (ps := ["_law_feed_here", "_law_pool_here", "_law_room", "_law_down"]) fun _ _ _ _ _ _ us hl => match us, hl with | [_, _, _, _], _ => rfl
  have b10 := F10.binds (ps := ["_law_feed_here", "_law_pool_here", "_law_room", "_law_down"]) fun _ _ _ _ _ _ us hl => match us, hl with | [_, _, _, _], _ => rfl
  have b11 := F11.binds (ps := ["opening", "words", "closing"]) fun _ _ _ _ _ _ us hl => match us, hl with | [_, _, _], _ => rfl
  have b12 := F12.binds (ps := ["term"]) fun _ _ _ _ _ _ us hl => match us, hl with | [_], _ => rfl
  have b13 := F13.binds (ps := ["term"]) fun _ _ _ _ _ _ us hl => match us, hl with | [_], _ => rfl
  have b14 := F14.binds (ps := ["term"]) fun _ _ _ _ _ _ us hl => match us, hl with | [_], _ => rfl
  have b15 := F15.binds (ps := ["_law_part"]) fun _ _ _ _ _ _ us hl => match us, hl with | [_], _ => rfl
  have b16 := F16.binds (ps := ["shape"]) fun _ _ _ _ _ _ us hl => match us, hl with | [_], _ => rfl
  have b17 := F17.binds (ps := ["_law_shape_here"]) fun _ _ _ _ _ _ us hl => match us, hl with | [_], _ => rfl
  refine ⟨PySem.W.fnOf "law" "law" (defArgs sLaw) (defBody sLaw) (defScope sLaw) .none kV18 dc18 pm18 an18 cd18 ct18, fun s v => .of_eq rfl, fun base _ _ => ?_⟩
  have XLFeed : Fx l.prog w K mg base 1 "_law_feed" ["_law_script", "_law_k"] (spq K 2 [] rLFeed) := ⟨f1, _, ok_LFeed F1 m_len, PySem.W.mg_of X G a1, k1, b1⟩
  have XLTake : Fx l.prog w K mg base 1 "_law_take" ["_law_feed_here", "_law_many"] (spq K 2 [0] rLTake) := ⟨f2, _, ok_LTake F2 , PySem.W.mg_of X G a2, k2, b2⟩
  have XLNames : Fx l.prog w K mg base 2 "_law_names" ["_law_feed_here", "_law_many"] (spq K 2 [0] rLNames) := ⟨f3, _, ok_LNames F3 XLTake m_range m_len, PySem.W.mg_of X G a3, k3, b3⟩
  have XLPool : Fx l.prog w K mg base 3 "_law_pool" ["_law_feed_here"] (spq K 1 [0] rLPool) := ⟨f4, _, ok_LPool F4 XLNames XLTake m_range, PySem.W.mg_of X G a4, k4, b4⟩
  have XLShape : Fx l.prog w K mg base 3 "_law_shape" ["_law_feed_here"] (spq K 1 [0] rLShape) := ⟨f5, _, ok_LShape F5 XLNames XLTake m_range m_tuple, PySem.W.mg_of X G a5, k5, b5⟩
  have XLNumber : Fx l.prog w K mg base 72 "_law_number" ["_law_feed_here", "_law_pool_here", "_law_room"] (spq K 3 [0] (rLNumber 70)) := ⟨f6, _, ok_LNumber F6 (PySem.W.mg_of X G a6) b6 XLTake 70, PySem.W.mg_of X G a6, k6, b6⟩
  have XLLeaf : Fx l.prog w K mg base 2 "_law_leaf" ["_law_feed_here", "_law_pool_here"] (spq K 2 [0] rLLeaf) := ⟨f7, _, ok_LLeaf F7 XLTake, PySem.W.mg_of X G a7, k7, b7⟩
  have OGLRowLArgsLTerm := ok_LRowLArgsLTerm F8 (PySem.W.mg_of X G a8) b8 F9 (PySem.W.mg_of X G a9) b9 F10 (PySem.W.mg_of X G a10) b10 XLTake XLNumber XLLeaf m_range m_max m_tuple m_min 30
  have XLRow : Fx l.prog w K mg base 103 "_law_row" ["_law_feed_here", "_law_pool_here", "_law_room", "_law_down", "_law_many"] (spq K 5 [0] (rLRow 30)) := ⟨f8, _, OGLRowLArgsLTerm.1, PySem.W.mg_of X G a8, k8, b8⟩
  have XLArgs : Fx l.prog w K mg base 103 "_law_args" ["_law_feed_here", "_law_pool_here", "_law_room", "_law_down"] (spq K 4 [0] (rLArgs 30)) := ⟨f9, _, OGLRowLArgsLTerm.2.1, PySem.W.mg_of X G a9, k9, b9⟩
  have XLTerm : Fx l.prog w K mg base 103 "_law_term" ["_law_feed_here", "_law_pool_here", "_law_room", "_law_down"] (spq K 4 [0] (rLTerm 30)) := ⟨f10, _, OGLRowLArgsLTerm.2.2, PySem.W.mg_of X G a10, k10, b10⟩
  have XBracketed : Fx l.prog w K mg base 1 "bracketed" ["opening", "words", "closing"] (spq K 3 [] rBracketed) := ⟨f11, _, ok_Bracketed F11 , PySem.W.mg_of X G a11, k11, b11⟩
  have XWordsOf : Fx l.prog w K mg base 1 "words_of" ["term"] (spq K 1 [] rWordsOf) := ⟨f12, _, ok_WordsOf F12 m_list, PySem.W.mg_of X G a12, k12, b12⟩
  have XSpread : Fx l.prog w K mg base 2 "spread" ["term"] (spq K 1 [] rSpread) := ⟨f13, _, ok_Spread F13 XBracketed XWordsOf m_str, PySem.W.mg_of X G a13, k13, b13⟩
  have XTermText : Fx l.prog w K mg base 3 "term_text" ["term"] (spq K 1 [] rTermText) := ⟨f14, _, ok_TermText F14 XSpread m_str m_isinstance m_list m_reversed, PySem.W.mg_of X G a14, k14, b14⟩
  have XLSaid : Fx l.prog w K mg base 101 "_law_said" ["_law_part"] (spq K 1 [] (rLSaid 100)) := ⟨f15, _, ok_LSaid F15 (PySem.W.mg_of X G a15) b15 m_str 100, PySem.W.mg_of X G a15, k15, b15⟩
  have XShapeText : Fx l.prog w K mg base 1 "shape_text" ["shape"] (spq K 1 [] rShapeText) := ⟨f16, _, ok_ShapeText F16 m_list, PySem.W.mg_of X G a16, k16, b16⟩
  have XLShapeSaid : Fx l.prog w K mg base 1 "_law_shape_said" ["_law_shape_here"] (spq K 1 [] rLShapeSaid) := ⟨f17, _, ok_LShapeSaid F17 m_list m_str, PySem.W.mg_of X G a17, k17, b17⟩
  exact law_of (ok_Law F18 XLFeed XLPool XLShape XLTerm XLTake XTermText XLSaid XShapeText XLShapeSaid m_range m_str m_isinstance) law_true
theorem walk {l : PySem.W.OpenLaw} {q : Program} {loose : List Str} {XP : (Str → Option Value) → Heap → Prop} {YP : World → Heap → Prop} {d : DefRec} {K : Params → PySem.W.Frag} (hn : l.most = some 63) (hdf : d.params.defaults = [])
    (hY : ∀ (w : World) (h : Heap), YP w h → (K w.params).In h)
    (F : ∀ (w : World) (mg : Str → Option Value) (fa : Addr) (h : Heap), (K w.params).In h → h.Ns mainGlobals mg → mg d.name = some (.ref fa) →
      ∃ fd : FuncData, (∀ (s : Shared) (u : Value), BindsTo s fd ⟨[u], []⟩ [("_law_script", u)]) ∧ ∀ base : Heap, (K w.params).In base → base.Ns mainGlobals mg → FnOk l.prog w (K w.params) mg base CX0 104 fa fd ["_law_script"] (spLaw (K w.params))) :
    PySem.W.WalkO q loose XP YP l.row.toRowW d [] (fun f vs => PySem.call f vs) :=
  L2.walk_of (n := 63) (k := 104) (x := "_law_script") (CX := fun _ => CX0) (sp := fun w => spLaw (K w.params)) hn (by decide) hdf ⟨rfl, by decide, by decide⟩ hY F (fun _ _ a ns hl hO hS => ⟨a, ns, rfl, hS, hl, hO, fun _ => rfl⟩) fun _ _ _ _ _ z => z
end My
open PySem PySem.W PyProof.Rows
set_option maxRecDepth 100000 in
set_option maxHeartbeats 0 in
theorem PySem.Challenge.cw_shapefree_k08_terms_and_shapes_written_holds : PySem.Challenge.rw_shapefree_k08_terms_and_shapes_written.Holds := by
  w_on; o_law; k_head; (case hw => w_witness2)
  k_fill
  refine My.walk (l := PySem.Challenge.rw_shapefree_k08_terms_and_shapes_written) rfl rfl (fun w h Y => PySem.W.kIn_of Y) ?F
  case F =>
    intro w mg fa h KX G hmg
    refine' My.all_mk KX G hmg ?a1 ?l1 ?c1 ?k1 ?a2 ?l2 ?c2 ?k2 ?a3 ?l3 ?c3 ?k3 ?a4 ?l4 ?c4 ?k4 ?a5 ?l5 ?c5 ?k5 ?a6 ?l6 ?c6 ?k6 ?a7 ?l7 ?c7 ?k7 ?a8 ?l8 ?c8 ?k8 ?a9 ?l9 ?c9 ?k9 ?a10 ?l10 ?c10 ?k10 ?a11 ?l11 ?c11 ?k11 ?a12 ?l12 ?c12 ?k12 ?a13 ?l13 ?c13 ?k13 ?a14 ?l14 ?c14 ?k14 ?a15 ?l15 ?c15 ?k15 ?a16 ?l16 ?c16 ?k16 ?a17 ?l17 ?c17 ?k17 ?a18 ?l18 ?c18 ?k18 ?z1 ?z2 ?z3 ?z4 ?z5 ?z6 ?z7 ?z8 ?z9
    (case a1 => k_is); (case l1 => k_is); (case c1 => k_is); (case k1 => k_is)
    (case a2 => k_is); (case l2 => k_is); (case c2 => k_is); (case k2 => k_is)
    (case a3 => k_is); (case l3 => k_is); (case c3 => k_is); (case k3 => k_is)
    (case a4 => k_is); (case l4 => k_is); (case c4 => k_is); (case k4 => k_is)
    (case a5 => k_is); (case l5 => k_is); (case c5 => k_is); (case k5 => k_is)
    (case a6 => k_is); (case l6 => k_is); (case c6 => k_is); (case k6 => k_is)
    (case a7 => k_is); (case l7 => k_is); (case c7 => k_is); (case k7 => k_is)
    (case a8 => k_is); (case l8 => k_is); (case c8 => k_is); (case k8 => k_is)
    (case a9 => k_is); (case l9 => k_is); (case c9 => k_is); (case k9 => k_is)
    (case a10 => k_is); (case l10 => k_is); (case c10 => k_is); (case k10 => k_is)
    (case a11 => k_is); (case l11 => k_is); (case c11 => k_is); (case k11 => k_is)
    (case a12 => k_is); (case l12 => k_is); (case c12 => k_is); (case k12 => k_is)
    (case a13 => k_is); (case l13 => k_is); (case c13 => k_is); (case k13 => k_is)
    (case a14 => k_is); (case l14 => k_is); (case c14 => k_is); (case k14 => k_is)
    (case a15 => k_is); (case l15 => k_is); (case c15 => k_is); (case k15 => k_is)
    (case a16 => k_is); (case l16 => k_is); (case c16 => k_is); (case k16 => k_is)
    (case a17 => k_is); (case l17 => k_is); (case c17 => k_is); (case k17 => k_is)
    (case a18 => k_is); (case l18 => k_is); (case c18 => k_is); (case k18 => k_is)
    (case z1 => k_is)
    (case z2 => k_is)
    (case z3 => k_is)
    (case z4 => k_is)
    (case z5 => k_is)
    (case z6 => k_is)
    (case z7 => k_is)
    (case z8 => k_is)
    (case z9 => k_is)
