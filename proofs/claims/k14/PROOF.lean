import PyProof.Rows.All
import Wide.All
import OpenK.AllK
import Wide.FinOn
import PyProof.EqAt
import PyProof.EqKinds
import PyProof.NeKinds
import PyProof.TupleCall
import PyProof.StrWalks
import PyProof.ConsumeWalk
import PyProof.EnumMake
import PyProof.EnumFor
import PyProof.ListNew
import PyProof.ListRange
import PyProof.Rows.SortWalk
import PyProof.Rows.Range3
import PyProof.Rows.ChunkEnd
import PyProof.Rows.ChunkLeaf
import PyProof.Rows.StrInSeq
import Wide.Txt
import Lean
import PySem.Challenge.RW_laidfields_k14_placings_judged
set_option Elab.async false
set_option linter.all false
set_option maxRecDepth 100000
namespace L2
open PySem PySem.Spec PyProof.Rows

abbrev Key := Sum Int Str
def keyIs : Key → Value → Bool
  | .inl k, v => Value.isInt k v
  | .inr x, v => Value.isStrOf x v
def keyH (w : World) : Key → Int
  | .inl k => hashInt k
  | .inr x => hashStr w x
theorem keyIs_shape : ∀ {k : Key} {v : Value}, keyIs k v = true → (∃ i t, k = Sum.inl i ∧ v = Value.int i t) ∨ (∃ x t, k = Sum.inr x ∧ v = Value.str x t)
  | .inl i, v, h => by
    obtain ⟨t, e⟩ := Value.isInt_shape (k := i) (v := v) h
    exact .inl ⟨i, t, rfl, e⟩
  | .inr x, v, h => by
    obtain ⟨t, e⟩ := Value.isStrOf_shape (x := x) (v := v) h
    exact .inr ⟨x, t, rfl, e⟩
theorem key_ll (a b : Int) : decide ((Sum.inl a : Key) = Sum.inl b) = (a == b) := by
  by_cases e : a = b
  · subst e; simp
  · have h : ¬ (Sum.inl a : Key) = Sum.inl b := fun q => e (Sum.inl.inj q)
    rw [decide_eq_false h]
    exact (beq_eq_false_iff_ne.mpr e).symm
theorem key_rr (a b : Str) : decide ((Sum.inr a : Key) = Sum.inr b) = decide (a = b) := by
  by_cases e : a = b
  · subst e; simp
  · have h : ¬ (Sum.inr a : Key) = Sum.inr b := fun q => e (Sum.inr.inj q)
    rw [decide_eq_false h, decide_eq_false e]
theorem key_lr (a : Int) (b : Str) : decide ((Sum.inl a : Key) = Sum.inr b) = false := decide_eq_false (fun q => nomatch q)
theorem key_rl (a : Str) (b : Int) : decide ((Sum.inr a : Key) = Sum.inl b) = false := decide_eq_false (fun q => nomatch q)

def mixKind (prog : Program) (w : World) : PySem.KeyKind prog w Key where
  is := keyIs
  hash := keyH w
  inj := fun v a b ha hb => by
    rcases keyIs_shape ha with ⟨i, t, rfl, rfl⟩ | ⟨x, t, rfl, rfl⟩
    · rcases keyIs_shape hb with ⟨j, u, rfl, e⟩ | ⟨y, u, rfl, e⟩
      · injection e with e1 _; rw [e1]
      · exact nomatch e
    · rcases keyIs_shape hb with ⟨j, u, rfl, e⟩ | ⟨y, u, rfl, e⟩
      · exact nomatch e
      · injection e with e1 _; rw [e1]
  byValue := fun k v h => by
    rcases keyIs_shape h with ⟨i, t, rfl, rfl⟩ | ⟨x, t, rfl, rfl⟩ <;> rfl
  pyHash := fun hv h => by
    rcases keyIs_shape hv with ⟨i, t, rfl, rfl⟩ | ⟨x, t, rfl, rfl⟩
    · exact wpAny_pyHash_int h
    · exact wpAny_pyHash_str h
  eqBool := fun hu hv h => by
    rcases keyIs_shape hu with ⟨i, t, rfl, rfl⟩ | ⟨x, t, rfl, rfl⟩
    · rcases keyIs_shape hv with ⟨j, u, rfl, rfl⟩ | ⟨y, u, rfl, rfl⟩
      · rw [key_ll] at h; exact wpAny_eqBool_int h
      · rw [key_lr] at h; exact SeqAt.EqAt.int_str i t y u _ _ _ _ h
    · rcases keyIs_shape hv with ⟨j, u, rfl, rfl⟩ | ⟨y, u, rfl, rfl⟩
      · rw [key_rl] at h; exact SeqAt.EqAt.str_int x t j u _ _ _ _ h
      · rw [key_rr] at h; exact wpAny_eqBool_str h
  «strs» := fun k x t v h => by
    rcases keyIs_shape h with ⟨i, u, rfl, e⟩ | ⟨y, u, rfl, e⟩
    · exact nomatch e
    · injection e with e1 _
      subst e1
      cases v <;> rfl

end L2

namespace L2
open PySem PySem.Spec PyProof.Rows

inductive V where
  | non | bl (b : Bool) | int (i : Int) | str (x : Str) | byt (b : Array UInt8) | flt (b : UInt64) | ref (a : Addr) | ty (n : String)
  deriving DecidableEq

def RelV : V → Value → Prop
  | .non, u => u = Value.none
  | .bl b, u => u = Value.bool b
  | .int i, u => ∃ t, u = Value.int i t
  | .str x, u => ∃ t, u = Value.str x t
  | .byt b, u => ∃ t, u = Value.bytes b t
  | .flt b, u => ∃ t, u = Value.float b t
  | .ref a, u => u = Value.ref a
  | .ty n, u => u = Value.type n

abbrev Vals : List V → List Value → Prop := Paired RelV
theorem Vals.length {xs : List V} {us : List Value} (r : Vals xs us) : xs.length = us.length := Paired.length r
theorem Vals.get : ∀ {xs : List V} {us : List Value} {i : Nat} {x : V}, Vals xs us → xs[i]? = some x → ∃ u, us[i]? = some u ∧ RelV x u
  | _, _, _, _, .nil, e => by simp at e
  | _, _, 0, _, .cons r _, e => by simp at e; subst e; exact ⟨_, rfl, r⟩
  | _, _, i + 1, x, .cons _ t, e => by
    obtain ⟨u, h1, h2⟩ := Vals.get (i := i) (x := x) t (by simpa using e)
    exact ⟨u, by simpa using h1, h2⟩
theorem Vals.set {x : V} {u : Value} (r : RelV x u) : ∀ {xs : List V} {us : List Value} (i : Nat), Vals xs us → Vals (xs.set i x) (us.set i u)
  | _, _, _, .nil => .nil
  | _, _, 0, .cons _ t => .cons r t
  | _, _, i + 1, .cons q t => .cons q (Vals.set r i t)
theorem Vals.append : ∀ {xs ys : List V} {us ws : List Value}, Vals xs us → Vals ys ws → Vals (xs ++ ys) (us ++ ws)
  | _, _, _, _, .nil, s => s
  | _, _, _, _, .cons r t, s => .cons r (Vals.append t s)
theorem Vals.take : ∀ {xs : List V} {us : List Value} (n : Nat), Vals xs us → Vals (xs.take n) (us.take n)
  | _, _, 0, _ => .nil
  | _, _, _ + 1, .nil => .nil
  | _, _, n + 1, .cons r t => .cons r (Vals.take n t)
theorem Vals.drop : ∀ {xs : List V} {us : List Value} (n : Nat), Vals xs us → Vals (xs.drop n) (us.drop n)
  | _, _, 0, r => r
  | _, _, _ + 1, .nil => .nil
  | _, _, n + 1, .cons _ t => Vals.drop n t
def RelO : Option V → Option Value → Prop
  | some v, some u => RelV v u
  | none, none => True
  | _, _ => False
def KV {κ : Type} : List (κ × V) → List (κ × Value) → Prop := Paired fun (p : κ × V) (q : κ × Value) => p.1 = q.1 ∧ RelV p.2 q.2

def kV : Key → V
  | .inl i => .int i
  | .inr x => .str x

inductive HO where
  /-- a list -/
  | lst (xs : List V)
  /-- a tuple (never changes) -/
  | tup (xs : List V)
  /-- a dict whose keys are ints and texts; one whose keys are tuples of ints and texts (the empty one is both) -/
  | dK (kvs : List (Key × V)) | dT (kvs : List (List Key × V))
  /-- a set of ints: its members, its size -/
  | set (S : Int → Bool) (n : Nat)
  /-- an instance of the class at C, its dict at dx, its attributes -/
  | ins (C dx : Addr) (fs : List (Str × V))
  /-- the dict of the instance at x -/
  | own (x : Addr)
  /-- the dict of an exception -/
  | xd (fs : List (Str × V))
  /-- a bound method, f of x -/
  | met (f x : Addr)
  /-- a range object lo, lo + 1, .. below hi -/
  | rng (lo hi : Int)
  /-- a thing that is known to the object (the script; a dict while a loop walks it): read, never written while it is so -/
  | frz (o : Obj) (u : HO)
  /-- a code object's table -/
  | tbl (ps : Array Value)
  /-- any other thing, by what is true of its one object (a def of one's own: SetO a S n := HO.ext fun h => ..) -/
  | ext (φ : Heap → Prop)

abbrev Hp := Addr → Option HO
def upd (H : Hp) (a : Addr) (o : HO) : Hp := fun b => if b = a then some o else H b
theorem upd_same {H : Hp} {a : Addr} {o : HO} : upd H a o a = some o := by unfold upd; rw [if_pos rfl]
theorem upd_ne {H : Hp} {a b : Addr} {o : HO} (h : b ≠ a) : upd H a o b = H b := by unfold upd; rw [if_neg h]
theorem ne_of_none {H : Hp} {a b : Addr} {o : HO} (h : H a = some o) (h' : H b = none) : a ≠ b := by
  intro e; subst e; rw [h] at h'; cases h'

section
variable (P : Program) (w : World)
def ObjOk (H : Hp) (h : Heap) (a : Addr) : HO → Prop
  | .lst xs => xs.length ≤ sizeLine ∧ ∃ (its : List Value) (n : Nat), Vals xs its ∧ h.get? a = some { cls := .type "list", data := .seq its.toArray n }
  | .tup xs => xs.length ≤ sizeLine ∧ ∃ its : List Value, Vals xs its ∧ IsTup h a its.toArray
  | .dK kvs => kvs.length ≤ sizeLine ∧ (a == sysModules) = false ∧ ∃ vs, KV kvs vs ∧ h.DictOf (mixKind P w) a vs
  | .dT kvs => kvs.length ≤ sizeLine ∧ (a == sysModules) = false ∧ ∃ xs : List (List Key × Addr × Value),
      Paired (fun (p : List Key × V) (q : List Key × Addr × Value) => p.1 = q.1 ∧ H q.2.1 = some (.tup (p.1.map kV)) ∧ RelV p.2 q.2.2) kvs xs ∧
      ∃ o es ep, h.get? a = some o ∧ o.ExactDict ∧ o.data = .dict es ep ∧ es.toList = xs.map (entryOfKey (tupleKind (mixKind P w))) ∧ (xs.map (·.1)).Nodup
  | .set S n => h.SetOf (intKind P w) a S n
  | .ins C dx fs => H dx = some (.own a) ∧ fs.length ≤ 1000 ∧ dx ≠ a ∧ h.get? a = some (PySem.W.instObj C dx) ∧
      ∃ mA, h.Ns1 dx mA ∧ (∀ f, RelO (fs.lookup f) (mA f)) ∧ PySem.Within mA (fs.map (·.1))
  | .own _ => ∃ o, h.get? a = some o
  | .xd fs => ∃ mA, h.Ns1 a mA ∧ ∀ f, RelO (fs.lookup f) (mA f)
  | .rng lo hi => ∃ t u v, h.get? a = some { cls := .type "range", data := .fields #[.int lo t, .int hi u, .int 1 v] }
  | .frz o u => h.get? a = some o ∧ ObjOk H h a u
  | .tbl ps => h.get? a = some { cls := .none, data := .fields ps }
  | .met f x => h.get? a = some (PySem.W.methodObj (.ref f) (.ref x))
  | .ext φ => φ h ∧ (∃ o, h.get? a = some o) ∧ ∀ h1 h2 : Heap, φ h1 → (∀ o, h1.get? a = some o → h2.get? a = some o) → φ h2
def HOk (H : Hp) (h : Heap) : Prop := ∀ a o, H a = some o → ObjOk P w H h a o
end

section
variable {P : Program} {w : World} {H H' : Hp} {h h' : Heap} {a : Addr} {o : HO}
theorem ObjOk.lt (x : ObjOk P w H h a o) : a < h.objs.size := by
  cases o with
  | lst xs => obtain ⟨_, _, _, _, e⟩ := x; exact Heap.lt_size e
  | tup xs => obtain ⟨_, _, _, p⟩ := x; exact p.lt
  | dK kvs => obtain ⟨_, _, _, _, o, _, _, e, _⟩ := x; exact Heap.lt_size e
  | dT kvs => obtain ⟨_, _, _, _, o, _, _, e, _⟩ := x; exact Heap.lt_size e
  | set S n => obtain ⟨o, _, _, _, e, _⟩ := x; exact Heap.lt_size e
  | ins C dx fs => obtain ⟨_, _, _, e, _⟩ := x; exact Heap.lt_size e
  | own y => obtain ⟨_, e⟩ := x; exact Heap.lt_size e
  | xd fs => obtain ⟨_, ⟨_, _, _, e, _⟩, _⟩ := x; exact Heap.lt_size e
  | rng lo hi => obtain ⟨_, _, _, e⟩ := x; exact Heap.lt_size e
  | frz ob u => obtain ⟨e, _⟩ := x; exact Heap.lt_size e
  | tbl ps => exact Heap.lt_size (show h.get? a = some _ from x)
  | met f y => exact Heap.lt_size (show h.get? a = some _ from x)
  | ext φ => obtain ⟨_, ⟨_, e⟩, _⟩ := x; exact Heap.lt_size e
theorem Paired.mapP {α β : Type} {F G : α → β → Prop} : ∀ {l₁ : List α} {l₂ : List β}, Paired F l₁ l₂ → (∀ a b, F a b → G a b) → Paired G l₁ l₂
  | _, _, .nil, _ => .nil
  | _, _, .cons r t, f => .cons (f _ _ r) (Paired.mapP t f)
theorem ObjOk.stay (x : ObjOk P w H h a o) (k : ∀ b u, (b = a ∨ H b = some (.own a)) → h.get? b = some u → h'.get? b = some u)
    (ho : ∀ b, H b = some (.own a) → H' b = some (.own a)) (ht : ∀ b xs, H b = some (.tup xs) → H' b = some (.tup xs)) : ObjOk P w H' h' a o := by
  induction o with
  | lst xs => obtain ⟨z, its, n, r, e⟩ := x; exact ⟨z, its, n, r, k _ _ (.inl rfl) e⟩
  | tup xs => obtain ⟨z, its, r, ob, e, c⟩ := x; exact ⟨z, its, r, ob, k _ _ (.inl rfl) e, c⟩
  | dK kvs => obtain ⟨z, y, vs, r, ob, es, ep, e, c⟩ := x; exact ⟨z, y, vs, r, ob, es, ep, k _ _ (.inl rfl) e, c⟩
  | dT kvs =>
    obtain ⟨z, y, xs, r, ob, es, ep, e, c⟩ := x
    exact ⟨z, y, xs, Paired.mapP r fun p q z => ⟨z.1, ht _ _ z.2.1, z.2.2⟩, ob, es, ep, k _ _ (.inl rfl) e, c⟩
  | set S n => obtain ⟨ob, es, ep, t, e, c⟩ := x; exact ⟨ob, es, ep, t, k _ _ (.inl rfl) e, c⟩
  | ins C dx fs =>
    obtain ⟨d, z, ne, e, mA, ⟨od, es, ep, e2, c⟩, r⟩ := x
    exact ⟨ho _ d, z, ne, k _ _ (.inl rfl) e, mA, ⟨od, es, ep, k _ _ (.inr d) e2, c⟩, r⟩
  | own y => obtain ⟨ob, e⟩ := x; exact ⟨ob, k _ _ (.inl rfl) e⟩
  | xd fs => obtain ⟨mA, ⟨od, es, ep, e, c⟩, r⟩ := x; exact ⟨mA, ⟨od, es, ep, k _ _ (.inl rfl) e, c⟩, r⟩
  | rng lo hi => obtain ⟨t, u, v, e⟩ := x; exact ⟨t, u, v, k _ _ (.inl rfl) e⟩
  | frz ob u ih => obtain ⟨e, q⟩ := x; exact ⟨k _ _ (.inl rfl) e, ih q⟩
  | tbl ps =>
    have e : h.get? a = some { cls := .none, data := .fields ps } := x
    show h'.get? a = some { cls := .none, data := .fields ps }
    exact k a _ (.inl rfl) e
  | met f y =>
    have e : h.get? a = some (PySem.W.methodObj (.ref f) (.ref y)) := x
    show h'.get? a = some (PySem.W.methodObj (.ref f) (.ref y))
    exact k a _ (.inl rfl) e
  | ext φ => obtain ⟨p, ⟨o, e⟩, st⟩ := x; exact ⟨st _ _ p fun o q => k _ _ (.inl rfl) q, ⟨o, k _ _ (.inl rfl) e⟩, st⟩
theorem HOk.lt (x : HOk P w H h) (e : H a = some o) : a < h.objs.size := (x a o e).lt
theorem HOk.fresh (x : HOk P w H h) (e : h.objs.size ≤ a) : H a = none := by
  cases q : H a with
  | none => rfl
  | some u => exact absurd (Nat.lt_of_lt_of_le (x.lt q) e) (Nat.lt_irrefl _)
theorem HOk.kept (x : HOk P w H h) (k : ∀ b u, h.get? b = some u → h'.get? b = some u) : HOk P w H h' := fun a o e =>
  (x a o e).stay (fun b u _ q => k b u q) (fun _ q => q) fun _ _ q => q
theorem HOk.laid (x : HOk P w H h) (k : ∀ b u, h.get? b = some u → h'.get? b = some u) (hp : h.objs.size ≤ a) (new : ObjOk P w (upd H a o) h' a o) : HOk P w (upd H a o) h' := fun b u e => by
  have hn := x.fresh hp
  by_cases hb : b = a
  · subst hb; rw [upd_same] at e; cases e; exact new
  · rw [upd_ne hb] at e
    exact (x b u e).stay (fun c v _ q => k c v q) (fun c q => by rw [upd_ne (ne_of_none q hn)]; exact q) fun c xs q => by rw [upd_ne (ne_of_none q hn)]; exact q
end

def Rd (H : Hp) (a : Addr) (u : HO) : Prop := H a = some u ∨ ∃ o, H a = some (.frz o u)
theorem Rd.ok {P : Program} {w : World} {H : Hp} {h : Heap} {a : Addr} {u : HO} (r : Rd H a u) (x : HOk P w H h) : ObjOk P w H h a u := by
  rcases r with r | ⟨o, r⟩
  · exact x a u r
  · obtain ⟨_, q⟩ := x a _ r
    exact q
def Mut : Option HO → Prop
  | some (.lst _) => True
  | some (.dK _) => True
  | some (.dT _) => True
  | some (.set _ _) => True
  | some (.ins _ _ _) => True
  | some (.ext _) => True
  | _ => False
section
variable {P : Program} {w : World} {H : Hp} {h h' : Heap} {x e : Addr} {o' : HO}
theorem HOk.write (ok : HOk P w H h) (mu : Mut (H x)) (he : e = x ∨ H e = some (.own x)) (k : ∀ b u, b ≠ e → h.get? b = some u → h'.get? b = some u) (heo : ∃ u, h'.get? e = some u)
    (new : ObjOk P w (upd H x o') h' x o') : HOk P w (upd H x o') h' := fun b u q => by
  have nown : ∀ c y, H c = some (.own y) → c ≠ x := fun c y r z => by subst z; rw [r] at mu; exact mu
  have ntup : ∀ c xs, H c = some (.tup xs) → c ≠ x := fun c xs r z => by subst z; rw [r] at mu; exact mu
  by_cases hb : b = x
  · subst hb; rw [upd_same] at q; cases q; exact new
  · rw [upd_ne hb] at q
    by_cases hbe : b = e
    · have q' : H b = some (.own x) := by
        rcases he with z | z
        · exact absurd (hbe.trans z) hb
        · rw [hbe]; exact z
      rw [q] at q'; cases q'
      obtain ⟨v, hv⟩ := heo
      exact ⟨v, by rw [hbe]; exact hv⟩
    · refine (ok b u q).stay (fun c v hc r => k c v ?_ r) (fun c r => by rw [upd_ne (nown c b r)]; exact r) fun c xs r => by rw [upd_ne (ntup c xs r)]; exact r
      rcases hc with rfl | hc
      · exact hbe
      · rintro rfl
        rcases he with z | z
        · exact nown c b hc z
        · rw [hc] at z; cases z; exact hb rfl
end

structure Un (fs ex : List Addr) (H H' : Hp) (h h' : Heap) : Prop where
  keep : ∀ b o, h.get? b = some o → H b = none → b ∉ fs → b ∉ ex → h'.get? b = some o
  slot : ∀ b o, h.get? b = some o → H b = none → b ∈ fs → b ∉ ex → ∃ sl, h'.get? b = some { o with slots := sl }
  free : ∀ b o, h.get? b = some o → H b = none → b ∉ ex → H' b = none
  there : ∀ b o, h.get? b = some o → b ∉ ex → ∃ o', h'.get? b = some o'
  tups : ∀ b xs, H b = some (.tup xs) → H' b = some (.tup xs)
  frzs : ∀ b o u, H b = some (.frz o u) → H' b = some (.frz o u)
  tbls : ∀ b ps, H b = some (.tbl ps) → ∃ more, H' b = some (.tbl (ps ++ more))
section
variable {fs fs' ex ex' : List Addr} {H H1 H2 : Hp} {h h1 h2 h' : Heap} {a x e : Addr} {o : HO}
theorem Un.any (u : Un fs ex H H1 h h1) {b : Addr} {ob : Obj} (q : h.get? b = some ob) (n : H b = none) (hx : b ∉ ex) : ∃ sl, h1.get? b = some { ob with slots := sl } := by
  by_cases hb : b ∈ fs
  · exact u.slot b ob q n hb hx
  · exact ⟨ob.slots, u.keep b ob q n hb hx⟩
theorem Un.kept (k : ∀ b u, h.get? b = some u → h'.get? b = some u) : Un fs ex H H h h' :=
  ⟨fun b ob q _ _ _ => k b ob q, fun b ob q _ _ _ => ⟨ob.slots, k b ob q⟩, fun _ _ _ n _ => n, fun b ob q _ => ⟨ob, k b ob q⟩, fun _ _ q => q, fun _ _ _ q => q, fun _ ps q => ⟨#[], by rw [q]; simp⟩⟩
theorem Un.refl : Un fs ex H H h h := Un.kept fun _ _ q => q
theorem Un.laid (k : ∀ b u, h.get? b = some u → h'.get? b = some u) (hp : h.objs.size ≤ a) (hn : H a = none) : Un fs ex H (upd H a o) h h' where
  keep := fun b u q _ _ _ => k b u q
  slot := fun b u q _ _ _ => ⟨u.slots, k b u q⟩
  free := fun b u q n _ => by rw [upd_ne (Nat.ne_of_lt (Nat.lt_of_lt_of_le (Heap.lt_size q) hp))]; exact n
  there := fun b u q _ => ⟨u, k b u q⟩
  tups := fun b xs q => by rw [upd_ne (ne_of_none q hn)]; exact q
  frzs := fun b u xs q => by rw [upd_ne (ne_of_none q hn)]; exact q
  tbls := fun b ps q => ⟨#[], by rw [upd_ne (ne_of_none q hn), q]; simp⟩
theorem Un.write (mu : Mut (H x)) (he : e = x ∨ H e = some (.own x)) (k : ∀ b u, b ≠ e → h.get? b = some u → h'.get? b = some u) (heo : ∃ u, h'.get? e = some u) : Un fs ex H (upd H x o) h h' := by
  have hx : ∀ b, H b = none → b ≠ x := fun b n z => by subst z; rw [n] at mu; exact mu
  have hb : ∀ b, H b = none → b ≠ e := fun b n z => by
    subst z
    rcases he with r | r
    · exact hx b n r
    · rw [n] at r; cases r
  have hm : ∀ b u, H b = some u → ¬ Mut (some u) → b ≠ x := fun b u q nm z => by subst z; rw [q] at mu; exact nm mu
  refine ⟨fun b u q n _ _ => k b u (hb b n) q, fun b u q n _ _ => ⟨u.slots, k b u (hb b n) q⟩, fun b u q n _ => by rw [upd_ne (hx b n)]; exact n, fun b u q _ => ?_,
    fun b xs q => by rw [upd_ne (hm b _ q fun z => z)]; exact q, fun b u xs q => by rw [upd_ne (hm b _ q fun z => z)]; exact q, fun b ps q => ⟨#[], by rw [upd_ne (hm b _ q fun z => z), q]; simp⟩⟩
  by_cases hbe : b = e
  · subst hbe; exact heo
  · exact ⟨u, k b u hbe q⟩
end

def trk (h : Heap) (H : Hp) : List Addr := (List.range h.objs.size).filter fun a => (H a).isSome
def hidT (h : Heap) (H : Hp) : Heap := PySem.W.hideAll h (trk h H)
theorem hidT_size (h : Heap) (H : Hp) : (hidT h H).objs.size = h.objs.size := PySem.W.hideAll_size _ _
theorem hidT_get {h : Heap} {H : Hp} {b : Addr} {o : Obj} (e : h.get? b = some o) (n : H b = none) : (hidT h H).get? b = some o :=
  PySem.W.hideAll_get _ e fun hm => by
    have q : (H b).isSome = true := (List.mem_filter.mp hm).2
    rw [n] at q; simp at q
theorem of_hidT {h : Heap} {H : Hp} {b : Addr} {o : Obj} (e : (hidT h H).get? b = some o) : h.get? b = some o ∧ H b = none := by
  have e' : h.get? b = some o := PySem.W.of_hideAll (trk h H) e
  refine ⟨e', ?_⟩
  cases q : H b with
  | none => rfl
  | some x =>
    have hm : b ∈ trk h H := List.mem_filter.mpr ⟨List.mem_range.mpr (Heap.lt_size e'), by simp [q]⟩
    have z : (hidT h H).get? b = none := PySem.W.hideAll_none (trk h H) hm
    rw [z] at e; cases e

def allNews (g h : Heap) (L : Addr) : List (Addr × Obj) := (List.range h.objs.size).filterMap fun a => if a = L ∨ (g.get? a).isSome = true then none else (h.get? a).map fun o => (a, o)
def rest (g h : Heap) (L d : Addr) : List (Addr × Obj) := (allNews g h L).filter fun p => decide (p.1 ≠ d)
end L2

namespace L2
open PySem PySem.Spec PyProof.Rows

structure Mod (K : PySem.W.Frag) (mg : Str → Option Value) (base : Heap) : Prop where
  kin : K.In base
  glob : base.Ns mainGlobals mg
  blt : ∃ mb, base.Ns builtinsNs mb ∧ ∀ x : Str, x ≠ "__name__" → mb x = bootBuiltins x
  nolimit : base.NoLimit

structure Cx where
  prog : Program
  w : World
  K : PySem.W.Frag
  mg : Str → Option Value
  base : Heap
  A : Around
  N : List Str
  s₀ : Shared
  H₀ : Hp
  env : Env
  outer : List Env
  stack : List Env
  ex : List Addr
  fn : Str → Bool
  calm : Bool
  pn : List (Addr × Obj)
  xe : Value → Shared → Prop
def frs (l : List Env) : List Addr := l.filterMap (·.frame)
abbrev Cx.fs (X : Cx) : List Addr := frs X.outer

def Vis (sc : Scope) (x : Str) : Prop := sc.names.lookup x = some .local ∨ sc.names.lookup x = some .cell ∨ sc.names.lookup x = some .free
def Loc (sc : Scope) (x : Str) : Prop := sc.names.lookup x = some .local ∨ sc.names.lookup x = some .cell
def Look (env : Env) (h : Heap) (m : Str → Option Value) (x : Str) (u : Value) : Prop :=
  (env.kindOf x = some .local ∧ m x = some u) ∨ ((env.kindOf x = some .cell ∨ env.kindOf x = some .free) ∧ ∃ c, env.cells.lookup x = some c ∧ h.IsCell c (some u))

structure Cx.Ok (X : Cx) : Prop where
  mod : Mod X.K X.mg X.base
  kind : X.env.scope.kind = .function
  glob : X.env.globals = mainGlobals
  blt : X.env.builtins = builtinsNs
  above : X.s₀.heap.objs.size ≤ X.env.locals
  inj : ∀ x y c, X.env.cells.lookup x = some c → X.env.cells.lookup y = some c → x = y
  has : ∀ x, (X.env.kindOf x = some .cell ∨ X.env.kindOf x = some .free) → ∃ c, X.env.cells.lookup x = some c
  cab : ∀ x c, X.fn x = true → X.env.cells.lookup x = some c → X.s₀.heap.objs.size ≤ c
  hd : X.calm = true → X.A.handled = none
  frames : X.A.frames = some X.stack
  stk : X.stack = X.outer ∨ (X.stack = X.env :: X.outer ∧ X.env.frame = some X.env.locals)
  exf : ∀ b ∈ X.ex, b ≠ X.env.locals ∧ ∀ x c, X.env.cells.lookup x = some c → c ≠ b
  bs : ∀ b o, X.base.get? b = some o → X.s₀.heap.get? b = some o ∧ X.H₀ b = none
  bsz : X.base.objs.size ≤ X.s₀.heap.objs.size
  noex : ∀ b o, X.base.get? b = some o → b ∉ X.ex
  exfs : ∀ b ∈ X.ex, b ∉ X.fs
  funs : X.s₀.heap.FunFrames X.base X.outer
  frf : ∀ b ∈ X.fs, X.H₀ b = none

structure Inv (X : Cx) (pins : List (Addr × Obj)) (σ : List (Option V)) (H : Hp) (s : Shared) : Prop where
  ok : X.Ok
  os : s.os = X.s₀.os
  bare : AllBare s.gens
  base : Un X.fs X.ex X.H₀ H X.s₀.heap s.heap
  loc : ∃ m, s.heap.Ns X.env.locals m ∧ ∀ (i : Nat) (x : Str) (v : V), X.N[i]? = some x → σ[i]? = some (some v) → Vis X.env.scope x → ∃ u, RelV v u ∧ Look X.env s.heap m x u
  cell : ∀ x c, X.env.cells.lookup x = some c → ∃ v, s.heap.IsCell c v
  free : H X.env.locals = none
  freeC : ∀ x c, X.env.cells.lookup x = some c → H c = none
  pin : ∀ p ∈ X.pn ++ pins, s.heap.get? p.1 = some p.2 ∧ H p.1 = none ∧ p.1 ≠ X.env.locals ∧ p.1 ∉ X.fs ∧ ∀ v, p.2.data ≠ .cell v
  hok : HOk X.prog X.w H s.heap
  len : σ.length = X.N.length

section
variable {X : Cx} {pins : List (Addr × Obj)} {σ : List (Option V)} {H H' : Hp} {s : Shared} {h' : Heap}

theorem Cx.Ok.nofr (ok : X.Ok) {b : Addr} {o : Obj} (e : X.base.get? b = some o) : b ∉ X.fs := fun hb => by
  have := (ok.funs.mem hb).1
  rw [e] at this; cases this
theorem Inv.bs (I : Inv X pins σ H s) : ∀ b o, X.base.get? b = some o → s.heap.get? b = some o ∧ H b = none := fun b o e =>
  ⟨I.base.keep b o (I.ok.bs b o e).1 (I.ok.bs b o e).2 (I.ok.nofr e) (I.ok.noex b o e), I.base.free b o (I.ok.bs b o e).1 (I.ok.bs b o e).2 (I.ok.noex b o e)⟩
theorem Inv.bk (I : Inv X pins σ H s) : ∀ b o, X.base.get? b = some o → s.heap.get? b = some o := fun b o e => (I.bs b o e).1
theorem Inv.mod (I : Inv X pins σ H s) : Mod X.K X.mg X.base := I.ok.mod
theorem Inv.kIn (I : Inv X pins σ H s) : X.K.In s.heap := I.ok.mod.kin.keeps I.bk
theorem Inv.fr (I : Inv X pins σ H s) : ∃ m, Fr X.base X.env.locals s.heap m :=
  let ⟨m, hn, _⟩ := I.loc
  ⟨m, hn, I.bk, Nat.le_trans I.ok.bsz I.ok.above⟩
theorem Inv.lt (I : Inv X pins σ H s) : X.env.locals < s.heap.objs.size := let ⟨_, hn, _⟩ := I.loc; hn.lt
theorem Inv.sz (I : Inv X pins σ H s) : X.s₀.heap.objs.size ≤ s.heap.objs.size := Nat.le_trans I.ok.above (Nat.le_of_lt I.lt)
theorem Inv.nofs (I : Inv X pins σ H s) {a : Addr} (h : s.heap.objs.size ≤ a) : a ∉ X.fs := fun hb => by
  obtain ⟨_, o, ho, _⟩ := I.ok.funs.mem hb
  exact absurd (Nat.lt_of_lt_of_le (Heap.lt_size ho) (Nat.le_trans I.sz h)) (Nat.lt_irrefl _)
theorem Inv.cne (I : Inv X pins σ H s) : ∀ x c, X.env.cells.lookup x = some c → c ≠ X.env.locals := fun x c e z => by
  obtain ⟨v, o, ho, hd⟩ := I.cell x c e
  obtain ⟨m, ⟨o', es, ep, ho', hd', _⟩, _⟩ := I.loc
  rw [z, ho'] at ho; cases ho; rw [hd'] at hd; cases hd
theorem Inv.funs (I : Inv X pins σ H s) : s.heap.FunFrames X.base X.outer := by
  have all : ∀ (l : List Env), (∀ b ∈ frs l, b ∈ X.fs) → X.s₀.heap.FunFrames X.base l → s.heap.FunFrames X.base l := by
    intro l
    induction l with
    | nil => intro _ _; trivial
    | cons env r ih =>
      intro hs hl
      obtain ⟨hk, ⟨L, o, hf, hn, ho, hd⟩, hr⟩ := hl
      have hL : L ∈ X.fs := hs L (by unfold frs; rw [List.filterMap_cons, hf]; exact List.mem_cons_self)
      obtain ⟨sl, e⟩ := I.base.slot L o ho (I.ok.frf L hL) hL fun z => I.ok.exfs L z hL
      exact ⟨hk, ⟨L, _, hf, hn, e, hd⟩, ih (fun b hb => hs b (by unfold frs; rw [List.filterMap_cons, hf]; exact List.mem_cons_of_mem _ hb)) hr⟩
  exact all X.outer (fun _ hb => hb) I.ok.funs

theorem Inv.stack (I : Inv X pins σ H s) : s.heap.FunFrames X.base X.stack := by
  rcases I.ok.stk with e | ⟨e, hf⟩
  · rw [e]; exact I.funs
  · rw [e]
    obtain ⟨m, hn, _⟩ := I.loc
    refine .cons (by rw [I.ok.kind]; decide) hf hn ?_ I.funs
    exact Heap.get?_none_of_le (Nat.le_trans I.ok.bsz I.ok.above)
theorem Inv.stkSub (I : Inv X pins σ H s) : ∀ b ∈ frs X.stack, b ∈ X.env.locals :: X.fs := fun b hb => by
  rcases I.ok.stk with e | ⟨e, hf⟩
  · rw [e] at hb; exact List.mem_cons_of_mem _ hb
  · rw [e] at hb
    unfold frs at hb
    rw [List.filterMap_cons, hf] at hb
    exact hb
theorem Inv.stkFree (I : Inv X pins σ H s) : ∀ b ∈ frs X.stack, H b = none := fun b hb => by
  rcases List.mem_cons.mp (I.stkSub b hb) with e | hb
  · rw [e]; exact I.free
  · obtain ⟨_, o, ho, _⟩ := I.ok.funs.mem hb
    exact I.base.free b o ho (I.ok.frf b hb) fun z => I.ok.exfs b z hb

theorem Inv.step {g' : Array GenState} {t' : Nat} {d' : Drawn} {ch : List Addr} (I : Inv X pins σ H s)
    (hch : ∀ b ∈ ch, (b ∈ X.ex ∨ X.s₀.heap.objs.size ≤ b) ∧ b ≠ X.env.locals ∧ (∀ x c, X.env.cells.lookup x = some c → c ≠ b) ∧ ∀ p ∈ X.pn ++ pins, p.1 ≠ b)
    (keep : ∀ b o, b ≠ X.env.locals → b ∉ X.fs → b ∉ ch → s.heap.get? b = some o → H b = none → h'.get? b = some o)
    (slot : ∀ b o, b ≠ X.env.locals → b ∈ X.fs → b ∉ ch → s.heap.get? b = some o → H b = none → ∃ sl, h'.get? b = some { o with slots := sl }) (free : ∀ b o, b ∉ ch → s.heap.get? b = some o → H b = none → H' b = none)
    (there : ∀ b o, b ∉ ch → s.heap.get? b = some o → ∃ o', h'.get? b = some o')
    (tups : ∀ b xs, H b = some (.tup xs) → H' b = some (.tup xs)) (frzs : ∀ b o u, H b = some (.frz o u) → H' b = some (.frz o u)) (tbls : ∀ b ps, H b = some (.tbl ps) → ∃ more, H' b = some (.tbl (ps ++ more)))
    (ns : ∀ m, s.heap.Ns X.env.locals m → h'.Ns X.env.locals m) (hok : HOk X.prog X.w H' h') (hg : AllBare g') :
    Inv X pins σ H' { s with heap := h', gens := g', drawn := d', toks := t' } := by
  have neL : ∀ b o, X.s₀.heap.get? b = some o → b ≠ X.env.locals := fun b o e => Nat.ne_of_lt (Nat.lt_of_lt_of_le (Heap.lt_size e) I.ok.above)
  have neC : ∀ b o, X.s₀.heap.get? b = some o → b ∉ X.ex → b ∉ ch := fun b o e hx hb => by
    rcases (hch b hb).1 with z | z
    · exact hx z
    · exact absurd (Nat.lt_of_lt_of_le (Heap.lt_size e) z) (Nat.lt_irrefl _)
  have cellK : ∀ x c, X.env.cells.lookup x = some c → ∀ v, s.heap.IsCell c v → h'.IsCell c v := fun x c e v ⟨o, ho, hd⟩ => by
    have nch : c ∉ ch := fun z => (hch c z).2.2.1 x c e rfl
    by_cases hc : c ∈ X.fs
    · obtain ⟨sl, q⟩ := slot c o (I.cne x c e) hc nch ho (I.freeC x c e)
      exact ⟨_, q, hd⟩
    · exact ⟨o, keep c o (I.cne x c e) hc nch ho (I.freeC x c e), hd⟩
  refine ⟨I.ok, I.os, hg, ⟨fun b o e n hb hx => ?_, fun b o e n hb hx => ?_, fun b o e n hx => ?_, fun b o e hx => ?_, fun b xs e => tups b xs (I.base.tups b xs e), fun b o xs e => frzs b o xs (I.base.frzs b o xs e), fun b ps e => ?_⟩, ?_, fun x c e => ?_, ?_, fun x c e => ?_, fun p hp => ?_, hok, I.len⟩
  · exact keep b o (neL b o e) hb (neC b o e hx) (I.base.keep b o e n hb hx) (I.base.free b o e n hx)
  · obtain ⟨sl, e1⟩ := I.base.slot b o e n hb hx
    obtain ⟨sl', e2⟩ := slot b _ (neL b o e) hb (neC b o e hx) e1 (I.base.free b o e n hx)
    exact ⟨sl', e2⟩
  · obtain ⟨o', e1⟩ := I.base.there b o e hx
    exact free b o' (neC b o e hx) e1 (I.base.free b o e n hx)
  · obtain ⟨o', e1⟩ := I.base.there b o e hx
    exact there b o' (neC b o e hx) e1
  · obtain ⟨m1, e1⟩ := I.base.tbls b ps e
    obtain ⟨m2, e2⟩ := tbls b _ e1
    exact ⟨m1 ++ m2, by rw [e2, Array.append_assoc]⟩
  · obtain ⟨m, hn, hl⟩ := I.loc
    refine ⟨m, ns m hn, fun i x v e1 e2 e3 => ?_⟩
    obtain ⟨u, r, l⟩ := hl i x v e1 e2 e3
    refine ⟨u, r, ?_⟩
    rcases l with l | ⟨k, c, e, z⟩
    · exact .inl l
    · exact .inr ⟨k, c, e, cellK x c e _ z⟩
  · obtain ⟨v, z⟩ := I.cell x c e
    exact ⟨v, cellK x c e v z⟩
  · obtain ⟨m, ⟨o, _, _, ho, _⟩, _⟩ := I.loc
    exact free _ o (fun z => (hch _ z).2.1 rfl) ho I.free
  · obtain ⟨v, o, ho, hd⟩ := I.cell x c e
    exact free c o (fun z => (hch c z).2.2.1 x c e rfl) ho (I.freeC x c e)
  · obtain ⟨e, n, ne, nf, d⟩ := I.pin p hp
    have nch : p.1 ∉ ch := fun z => (hch p.1 z).2.2.2 p hp rfl
    exact ⟨keep p.1 p.2 ne nf nch e n, free p.1 p.2 nch e n, ne, nf, d⟩
theorem Inv.un {t' : Nat} (I : Inv X pins σ H s) (u : Un X.fs [] H H' s.heap h') (hok : HOk X.prog X.w H' h') : Inv X pins σ H' { s with heap := h', toks := t' } := by
  obtain ⟨m, ⟨o, es, ep, ho, r⟩, _⟩ := id I.loc
  obtain ⟨sl, hL⟩ := u.any ho I.free (by simp)
  exact I.step (g' := s.gens) (d' := s.drawn) (ch := []) (fun _ z => nomatch z) (fun b o _ hb _ e n => u.keep b o e n hb (by simp)) (fun b o _ hb _ e n => u.slot b o e n hb (by simp)) (fun b o _ e n => u.free b o e n (by simp)) (fun b o _ e => u.there b o e (by simp)) u.tups u.frzs u.tbls (fun m' hm => by
    obtain ⟨o', es', ep', ho', r'⟩ := hm
    rw [ho] at ho'; cases ho'
    exact ⟨_, es', ep', hL, r'⟩) hok I.bare
theorem Inv.call {g' : Array GenState} {t' : Nat} {d' : Drawn} {ch : List Addr} (I : Inv X pins σ H s) (u : Un (frs X.stack) ch H H' s.heap h') (hok : HOk X.prog X.w H' h') (hg : AllBare g')
    (hch : ∀ b ∈ ch, (b ∈ X.ex ∨ X.s₀.heap.objs.size ≤ b) ∧ b ≠ X.env.locals ∧ (∀ x c, X.env.cells.lookup x = some c → c ≠ b) ∧ ∀ p ∈ X.pn ++ pins, p.1 ≠ b) :
    Inv X pins σ H' { s with heap := h', gens := g', drawn := d', toks := t' } := by
  obtain ⟨m, ⟨o, es, ep, ho, r⟩, _⟩ := id I.loc
  obtain ⟨sl, hL⟩ := u.any ho I.free fun z => (hch _ z).2.1 rfl
  exact I.step (ch := ch) hch (fun b o hL hb hc e n => u.keep b o e n (fun z => (List.mem_cons.mp (I.stkSub b z)).elim hL hb) hc) (fun b o _ _ hc e n => u.any e n hc) (fun b o hc e n => u.free b o e n hc) (fun b o hc e => u.there b o e hc) u.tups u.frzs u.tbls (fun m' hm => by
    obtain ⟨o', es', ep', ho', r'⟩ := hm
    rw [ho] at ho'; cases ho'
    exact ⟨_, es', ep', hL, r'⟩) hok hg
theorem Inv.turned {t' : Nat} {it : Addr} (I : Inv X pins σ H s) (k : ∀ b o, b ≠ it → s.heap.get? b = some o → h'.get? b = some o) (hn : H it = none) (hL : it ≠ X.env.locals)
    (h1 : it ∈ X.ex ∨ X.s₀.heap.objs.size ≤ it) (h2 : ∀ x c, X.env.cells.lookup x = some c → c ≠ it) (h3 : ∀ p ∈ X.pn ++ pins, p.1 ≠ it) : Inv X pins σ H { s with heap := h', toks := t' } := by
  have nit : ∀ b u, H b = some u → b ≠ it := fun b u e z => by rw [z, hn] at e; cases e
  refine I.step (g' := s.gens) (d' := s.drawn) (ch := [it]) (fun b hb => ?_) (fun b o _ _ hc e _ => k b o (fun z => hc (by simp [z])) e) (fun b o _ _ hc e _ => ⟨o.slots, k b o (fun z => hc (by simp [z])) e⟩) (fun _ _ _ _ n => n)
    (fun b o hc e => ⟨o, k b o (fun z => hc (by simp [z])) e⟩) (fun _ _ e => e) (fun _ _ _ e => e) (fun b ps e => ⟨#[], by rw [e]; simp⟩) (fun m hm => ?_) (fun b u e => ?_) I.bare
  · have e : b = it := by simpa using hb
    subst e
    exact ⟨h1, hL, h2, h3⟩
  · obtain ⟨o, es, ep, ho, r⟩ := hm
    exact ⟨o, es, ep, k _ o (Ne.symm hL) ho, r⟩
  · refine (I.hok b u e).stay (fun c v hc q => k c v ?_ q) (fun _ q => q) fun _ _ q => q
    rcases hc with z | z
    · rw [z]; exact nit b u e
    · exact nit c _ z
theorem Inv.tok (I : Inv X pins σ H s) (t : Nat) : Inv X pins σ H { s with toks := t } := I.un (h' := s.heap) (t' := t) Un.refl I.hok
theorem Inv.kept {t' : Nat} (I : Inv X pins σ H s) (k : ∀ b u, s.heap.get? b = some u → h'.get? b = some u) : Inv X pins σ H { s with heap := h', toks := t' } := I.un (Un.kept k) (I.hok.kept k)
theorem Inv.laid {a : Addr} {o : HO} {t' : Nat} (I : Inv X pins σ H s) (k : ∀ b u, s.heap.get? b = some u → h'.get? b = some u) (hp : s.heap.objs.size ≤ a) (new : ObjOk X.prog X.w (upd H a o) h' a o) :
    Inv X pins σ (upd H a o) { s with heap := h', toks := t' } := I.un (Un.laid k hp (I.hok.fresh hp)) (I.hok.laid k hp new)
theorem Inv.write {x e : Addr} {o : HO} {t' : Nat} (I : Inv X pins σ H s) (mu : Mut (H x)) (he : e = x ∨ H e = some (.own x)) (k : ∀ b u, b ≠ e → s.heap.get? b = some u → h'.get? b = some u) (heo : ∃ u, h'.get? e = some u)
    (new : ObjOk X.prog X.w (upd H x o) h' x o) : Inv X pins σ (upd H x o) { s with heap := h', toks := t' } := I.un (Un.write mu he k heo) (I.hok.write mu he k heo new)
theorem Inv.weak {σ' : List (Option V)} (I : Inv X pins σ H s) (hl : σ'.length = σ.length) (w : ∀ (i : Nat) v, σ'[i]? = some (some v) → σ[i]? = some (some v)) : Inv X pins σ' H s :=
  ⟨I.ok, I.os, I.bare, I.base, let ⟨m, hn, hl'⟩ := I.loc; ⟨m, hn, fun i x v e1 e2 e3 => hl' i x v e1 (w i v e2) e3⟩, I.cell, I.free, I.freeC, I.pin, I.hok, hl.trans I.len⟩
theorem Inv.pins_of {pins' : List (Addr × Obj)} (I : Inv X pins σ H s) (h : ∀ p ∈ pins', s.heap.get? p.1 = some p.2 ∧ H p.1 = none ∧ p.1 ≠ X.env.locals ∧ p.1 ∉ X.fs ∧ ∀ v, p.2.data ≠ .cell v) : Inv X pins' σ H s :=
  ⟨I.ok, I.os, I.bare, I.base, I.loc, I.cell, I.free, I.freeC, fun p hp => (List.mem_append.mp hp).elim (fun z => I.pin p (List.mem_append_left _ z)) (h p), I.hok, I.len⟩

theorem nodup_ix {N : List Str} (hN : N.Nodup) {i j : Nat} {x : Str} (a : N[i]? = some x) (b : N[j]? = some x) : i = j := by
  obtain ⟨h1, e1⟩ := List.getElem?_eq_some_iff.mp a
  obtain ⟨h2, e2⟩ := List.getElem?_eq_some_iff.mp b
  exact (List.getElem_inj hN).mp (e1.trans e2.symm)

theorem store_ok2 {M : Model} {A : Around} {E : Value → Shared → Prop} {i : Nat} {x : Str} {v : V} {u : Value} {Q : Unit → Shared → Prop} (I : Inv X pins σ H s) (hN : X.N.Nodup) (hi : X.N[i]? = some x) (hx : Loc X.env.scope x) (r : RelV v u)
    (h : ∀ s', Inv X pins (σ.set i (some v)) H s' → (∃ a, Heap.SameBut a s.heap s'.heap ∧ (a = X.env.locals ∨ X.env.cells.lookup x = some a)) → Q () s') (hf : X.fn x = true ∨ X.env.scope.names.lookup x = some .local := by first | exact .inl rfl | exact .inr rfl | assumption) : wpAny M A (storeName X.env x u) Q E s := by
  obtain ⟨m, hn, hl⟩ := id I.loc
  have hcls : (X.env.scope.kind == .class || (X.env.scope.kind == .module && X.env.locals != X.env.globals)) = false := by rw [I.ok.kind]; rfl
  have hiσ : i < σ.length := by rw [I.len]; exact (List.getElem?_eq_some_iff.mp hi).1
  have cne := I.cne
  have tracked : ∀ {a : Addr} {h' : Heap}, (∃ o, s.heap.get? a = some o ∧ H a = none) → Heap.SameBut a s.heap h' → HOk X.prog X.w H h' := fun {a h'} ha hs b ob e => by
    obtain ⟨_, _, hfree⟩ := ha
    refine (I.hok b ob e).stay (fun c w' hc q => (hs.2 c ?_).trans q) (fun _ q => q) fun _ _ q => q
    rintro rfl
    rcases hc with rfl | hc
    · rw [hfree] at e; cases e
    · rw [hfree] at hc; cases hc
  rcases hx with hk | hk
  · refine wpAny_storeName_local hk hn (fun h' hn' hs => ?_) hcls
    obtain ⟨oL, _, _, hoL, _⟩ := id hn
    refine h _ ⟨I.ok, I.os, I.bare, ⟨fun b o e n hb hx => ?_, fun b o e n hb hx => ?_, I.base.free, fun b o e hx => ?_, I.base.tups, I.base.frzs, I.base.tbls⟩, ⟨_, hn', fun j y v' e1 e2 e3 => ?_⟩, fun y c e => ?_, I.free, I.freeC, fun p hp => ?_, tracked ⟨oL, hoL, I.free⟩ hs, by simpa using I.len⟩ ⟨_, hs, .inl rfl⟩
    · exact (hs.2 b (Nat.ne_of_lt (Nat.lt_of_lt_of_le (Heap.lt_size e) I.ok.above))).trans (I.base.keep b o e n hb hx)
    · obtain ⟨sl, e1⟩ := I.base.slot b o e n hb hx
      exact ⟨sl, (hs.2 b (Nat.ne_of_lt (Nat.lt_of_lt_of_le (Heap.lt_size e) I.ok.above))).trans e1⟩
    · obtain ⟨o', e1⟩ := I.base.there b o e hx
      exact ⟨o', (hs.2 b (Nat.ne_of_lt (Nat.lt_of_lt_of_le (Heap.lt_size e) I.ok.above))).trans e1⟩
    · by_cases hj : j = i
      · subst hj
        rw [hi] at e1; cases e1
        rw [List.getElem?_set_self hiσ] at e2
        cases e2
        exact ⟨u, r, .inl ⟨hk, by simp⟩⟩
      · rw [List.getElem?_set_ne (Ne.symm hj)] at e2
        obtain ⟨u', r', q⟩ := hl j y v' e1 e2 e3
        refine ⟨u', r', ?_⟩
        rcases q with ⟨k, e⟩ | ⟨k, c, e, z⟩
        · refine .inl ⟨k, ?_⟩
          have : y ≠ x := fun e => hj (nodup_ix hN e1 (e ▸ hi))
          simp [this, e]
        · exact .inr ⟨k, c, e, z.sameBut hs (cne y c e)⟩
    · obtain ⟨w', z⟩ := I.cell y c e
      exact ⟨w', z.sameBut hs (cne y c e)⟩
    · obtain ⟨e, n, ne, nf, d⟩ := I.pin p hp
      exact ⟨(hs.2 p.1 ne).trans e, n, ne, nf, d⟩
  · have hfn : X.fn x = true := by
      rcases hf with z | z
      · exact z
      · rw [z] at hk; cases hk
    obtain ⟨c, hc⟩ := I.ok.has x (.inl hk)
    obtain ⟨w', z⟩ := I.cell x c hc
    refine wpAny_storeName_cell I.ok.kind hk hc z (fun h' hc' hs => ?_)
    obtain ⟨oc, hoc, hocd⟩ := id z
    refine h { s with heap := h' } ⟨I.ok, I.os, I.bare, ⟨fun b o e n hb hx => ?_, fun b o e n hb hx => ?_, I.base.free, fun b o e hx => ?_, I.base.tups, I.base.frzs, I.base.tbls⟩, ⟨m, hn.sameBut hs (Ne.symm (cne x c hc)), fun j y v' e1 e2 e3 => ?_⟩, fun y c' e => ?_, I.free, I.freeC, fun p hp => ?_, tracked ⟨oc, hoc, I.freeC x c hc⟩ hs, by simpa using I.len⟩ ⟨c, hs, .inr hc⟩
    · exact (hs.2 b (Nat.ne_of_lt (Nat.lt_of_lt_of_le (Heap.lt_size e) (I.ok.cab x c hfn hc)))).trans (I.base.keep b o e n hb hx)
    · obtain ⟨sl, e1⟩ := I.base.slot b o e n hb hx
      exact ⟨sl, (hs.2 b (Nat.ne_of_lt (Nat.lt_of_lt_of_le (Heap.lt_size e) (I.ok.cab x c hfn hc)))).trans e1⟩
    · obtain ⟨o', e1⟩ := I.base.there b o e hx
      exact ⟨o', (hs.2 b (Nat.ne_of_lt (Nat.lt_of_lt_of_le (Heap.lt_size e) (I.ok.cab x c hfn hc)))).trans e1⟩
    · by_cases hj : j = i
      · subst hj
        rw [hi] at e1; cases e1
        rw [List.getElem?_set_self hiσ] at e2
        cases e2
        exact ⟨u, r, .inr ⟨.inl hk, c, hc, hc'⟩⟩
      · rw [List.getElem?_set_ne (Ne.symm hj)] at e2
        obtain ⟨u', r', q⟩ := hl j y v' e1 e2 e3
        refine ⟨u', r', ?_⟩
        rcases q with q | ⟨k, c', e, z'⟩
        · exact .inl q
        · refine .inr ⟨k, c', e, z'.sameBut hs ?_⟩
          rintro rfl
          exact hj (nodup_ix hN e1 (I.ok.inj _ _ _ e hc ▸ hi))
    · by_cases hcc : c' = c
      · subst hcc; exact ⟨_, hc'⟩
      · obtain ⟨w2, z2⟩ := I.cell y c' e
        exact ⟨w2, z2.sameBut hs hcc⟩
    · obtain ⟨e, n, ne, nf, d⟩ := I.pin p hp
      refine ⟨(hs.2 p.1 ?_).trans e, n, ne, nf, d⟩
      intro q
      rw [q, hoc] at e
      have q' : oc = p.2 := Option.some.inj e
      exact d w' (by rw [← q']; exact hocd)
theorem store_ok {M : Model} {A : Around} {E : Value → Shared → Prop} {i : Nat} {x : Str} {v : V} {u : Value} {Q : Unit → Shared → Prop} (I : Inv X pins σ H s) (hN : X.N.Nodup) (hi : X.N[i]? = some x) (hx : Loc X.env.scope x) (r : RelV v u)
    (h : ∀ s', Inv X pins (σ.set i (some v)) H s' → Q () s') (hf : X.fn x = true ∨ X.env.scope.names.lookup x = some .local := by first | exact .inl rfl | exact .inr rfl | assumption) : wpAny M A (storeName X.env x u) Q E s :=
  store_ok2 I hN hi hx r (fun s' I' _ => h s' I') hf
theorem Inv.call' {s' : Shared} {ch : List Addr} (I : Inv X pins σ H s) (ho : s'.os = s.os) (u : Un (frs X.stack) ch H H' s.heap s'.heap) (hok : HOk X.prog X.w H' s'.heap) (hg : AllBare s'.gens)
    (hch : ∀ b ∈ ch, (b ∈ X.ex ∨ X.s₀.heap.objs.size ≤ b) ∧ b ≠ X.env.locals ∧ (∀ x c, X.env.cells.lookup x = some c → c ≠ b) ∧ ∀ p ∈ X.pn ++ pins, p.1 ≠ b) : Inv X pins σ H' s' := by
  obtain ⟨h', g', d', t', o'⟩ := s'
  have e : o' = s.os := ho
  subst e
  exact I.call (g' := g') (t' := t') (d' := d') u hok hg hch
end

abbrev XK := Value → Option Addr → Hp → Prop
abbrev St := List (Option V)
abbrev VK := V → Hp → Prop
abbrev TE := St → Hp → VK → Prop
abbrev TT := St → Hp → (Bool → Hp → Prop) → Prop
abbrev TA := St → Hp → (List V → Hp → Prop) → Prop
structure Ends where
  nx : St → Hp → Prop
  rt : VK
  bk : St → Hp → Prop := fun _ _ => False
  ct : St → Hp → Prop := fun _ _ => False
abbrev TS := Ends → St → Hp → Prop

def EP (X : Cx) (pins : List (Addr × Obj)) (σ : St) (Q : VK) (u : Value) (s' : Shared) : Prop := ∃ v H', Inv X pins σ H' s' ∧ RelV v u ∧ Q v H'
def TP (X : Cx) (pins : List (Addr × Obj)) (σ : St) (Q : Bool → Hp → Prop) (b : Bool) (s' : Shared) : Prop := ∃ H', Inv X pins σ H' s' ∧ Q b H'
def AP (X : Cx) (pins : List (Addr × Obj)) (σ : St) (Q : List V → Hp → Prop) (us : List Value) (s' : Shared) : Prop := ∃ vs H', Inv X pins σ H' s' ∧ Vals vs us ∧ Q vs H'
def SP (X : Cx) (pins : List (Addr × Obj)) (D : Ends) (f : Flow) (s' : Shared) : Prop :=
  match f with
  | .next => ∃ σ' H', Inv X pins σ' H' s' ∧ D.nx σ' H'
  | .brk => ∃ σ' H', Inv X pins σ' H' s' ∧ D.bk σ' H'
  | .cont => ∃ σ' H', Inv X pins σ' H' s' ∧ D.ct σ' H'
  | .ret u => ∃ v σ' H', Inv X pins σ' H' s' ∧ RelV v u ∧ D.rt v H'

def PE (X : Cx) (e : Expr) (t : TE) : Prop :=
  ∀ (pins : List (Addr × Obj)) (s : Shared) (σ : St) (H : Hp) (Q : VK), Inv X pins σ H s → t σ H Q → wpAny (model X.prog X.w) X.A (eval e X.env) (EP X pins σ Q) X.xe s
def PT (X : Cx) (e : Expr) (t : TT) : Prop :=
  ∀ (pins : List (Addr × Obj)) (s : Shared) (σ : St) (H : Hp) (Q : Bool → Hp → Prop), Inv X pins σ H s → t σ H Q → wpAny (model X.prog X.w) X.A (isTrue e X.env (eval e X.env)) (TP X pins σ Q) X.xe s
def PW (X : Cx) (e : Expr) (t : TT) : Prop :=
  ∀ (whole : Sem Value) (pins : List (Addr × Obj)) (s : Shared) (σ : St) (H : Hp) (Q : Bool → Hp → Prop), Inv X pins σ H s → t σ H Q → wpAny (model X.prog X.w) X.A (isTrue e X.env whole) (TP X pins σ Q) X.xe s
theorem PW.pt {X : Cx} {e : Expr} {t : TT} (h : PW X e t) : PT X e t := h _
def PA (X : Cx) (es : List Expr) (t : TA) : Prop :=
  ∀ (pos : Pos) (pins : List (Addr × Obj)) (s : Shared) (σ : St) (H : Hp) (Q : List V → Hp → Prop), Inv X pins σ H s → t σ H Q → wpAny (model X.prog X.w) X.A (spliced (backTo pos (starEach es X.env))) (AP X pins σ Q) X.xe s
def PS (X : Cx) (st : Stmt) (t : TS) : Prop :=
  ∀ (pins : List (Addr × Obj)) (s : Shared) (σ : St) (H : Hp) (D : Ends), Inv X pins σ H s → t D σ H → wpAny (model X.prog X.w) X.A (exec st X.env) (SP X pins D) X.xe s
def PSs (X : Cx) (st : List Stmt) (t : TS) : Prop :=
  ∀ (pins : List (Addr × Obj)) (s : Shared) (σ : St) (H : Hp) (D : Ends), Inv X pins σ H s → t D σ H → wpAny (model X.prog X.w) X.A (execs st X.env) (SP X pins D) X.xe s
theorem thn {α : Type} {t : Sem α} {Q Q' : α → Shared → Prop} {M : Model} {A : Around} {E : Value → Shared → Prop} {s : Shared} (h : wpAny M A t Q E s) (hQ : ∀ a s, Q a s → Q' a s) : wpAny M A t Q' E s := wpAny_mono h hQ fun _ _ x => x
end L2

namespace L2
open PySem PySem.Spec PyProof.Rows
section
variable {X : Cx}

theorem bin {a b : Expr} {ta tb : TE} (ha : PE X a ta) (hb : PE X b tb) {pins : List (Addr × Obj)} {s : Shared} {σ : St} {H : Hp} {R : V → V → Hp → Prop} (I : Inv X pins σ H s) (h : ta σ H fun x H1 => tb σ H1 fun y H2 => R x y H2)
    {α : Type} {Q : α → Shared → Prop} {f : Value → Value → Sem α}
    (hf : ∀ v u s2 x y H2, Inv X pins σ H2 s2 → RelV x v → RelV y u → R x y H2 → wpAny (model X.prog X.w) X.A (f v u) Q X.xe s2) :
    wpAny (model X.prog X.w) X.A (eval a X.env) (fun v s₁ => wpAny (model X.prog X.w) X.A (eval b X.env) (fun u s₂ => wpAny (model X.prog X.w) X.A (f v u) Q X.xe s₂) X.xe s₁) X.xe s := by
  refine thn (ha pins s σ H _ I h) fun v s1 ⟨x, H1, I1, r1, q1⟩ => ?_
  refine thn (hb pins s1 σ H1 _ I1 q1) fun u s2 ⟨y, H2, I2, r2, q2⟩ => ?_
  exact hf v u s2 x y H2 I2 r1 r2 q2

def tVar (i : Nat) : TE := fun σ H Q => ∃ v, σ[i]? = some (some v) ∧ Q v H
def tC (v : V) : TE := fun _ H Q => Q v H
theorem pe_var {i : Nat} {x : Str} {pos : Pos} (hN : X.N[i]? = some x) (hv : Vis X.env.scope x) (hd : (x == ("__debug__" : Str)) = false := by decide) (hcd : (x == ("__classdict__" : Str)) = false := by decide) : PE X (.Name x pos) (tVar i) := by
  intro pins s σ H Q I h
  obtain ⟨v, e, h⟩ := h
  obtain ⟨m, hn, hl⟩ := I.loc
  obtain ⟨u, r, l⟩ := hl i x v hN e hv
  have fin : EP X pins σ Q u s := ⟨v, H, I, r, h⟩
  rcases l with ⟨hk, hm⟩ | ⟨hk, c, hc, hcell⟩
  · exact wpAny_Name (wpAny_loadName_local I.ok.kind hk hn hm fin) hd
  · rcases hk with hk | hk
    · exact wpAny_Name (wpAny_loadName_cell I.ok.kind hk hc hcell fin) hd
    · exact wpAny_Name (wpAny_loadName_free I.ok.kind hk hc hcell fin hcd) hd
theorem pe_int {i j pos} : PE X (.Constant (.int i) j pos) (tC (.int i)) := fun _ _ _ H _ I h => wpAny_Constant_int ⟨.int i, H, I.tok _, ⟨_, rfl⟩, h⟩
theorem pe_bl {b j pos} : PE X (.Constant (.bool b) j pos) (tC (.bl b)) := fun _ _ _ H _ I h => Constant_bool ⟨.bl b, H, I, rfl, h⟩
theorem pe_str {x j pos} : PE X (.Constant (.str x) j pos) (tC (.str x)) := fun _ _ _ H _ I h => Calls.Constant_str ⟨.str x, H, I.tok _, ⟨_, rfl⟩, h⟩

def Gl (X : Cx) (x : Str) : Prop := X.env.kindOf x = some .globalImplicit
theorem ld_glob {E : Value → Shared → Prop} {pins : List (Addr × Obj)} {s : Shared} {σ : St} {H : Hp} {x : Str} {u : Value} {pos : Pos} {Q : Value → Shared → Prop} (I : Inv X pins σ H s) (hg : Gl X x) (hm : X.mg x = some u) (h : Q u s)
    (hd : (x == ("__debug__" : Str)) = false := by decide) : wpAny (model X.prog X.w) X.A (eval (.Name x pos) X.env) Q E s :=
  Calls.Name_function_global I.ok.kind hg (Calls.loadGlobal_global (by rw [I.ok.glob]; exact I.mod.glob.keeps I.bk) hm h) hd
theorem ld_blt {E : Value → Shared → Prop} {pins : List (Addr × Obj)} {s : Shared} {σ : St} {H : Hp} {x : Str} {u : Value} {pos : Pos} {Q : Value → Shared → Prop} (I : Inv X pins σ H s) (hg : Gl X x) (hm : X.mg x = none) (hv : bootBuiltins x = some u) (h : Q u s)
    (hn : x ≠ "__name__" := by decide) (hd : (x == ("__debug__" : Str)) = false := by decide) : wpAny (model X.prog X.w) X.A (eval (.Name x pos) X.env) Q E s := by
  obtain ⟨mb, h1, h2⟩ := I.mod.blt
  exact Calls.Name_function_global I.ok.kind hg (Calls.loadGlobal_builtin (by rw [I.ok.glob]; exact I.mod.glob.keeps I.bk) hm (by rw [I.ok.blt]; exact h1.keeps I.bk) ((h2 x hn).trans hv) h) hd
theorem pe_bltn {x : Str} {v : V} {u : Value} {pos : Pos} (hg : Gl X x) (hm : X.mg x = none) (hv : bootBuiltins x = some u) (r : RelV v u) (hn : x ≠ "__name__" := by decide) (hd : (x == ("__debug__" : Str)) = false := by decide) : PE X (.Name x pos) (tC v) :=
  fun _ _ _ H _ I h => ld_blt I hg hm hv ⟨v, H, I, r, h⟩ hn hd

def t2I (ta tb : TE) (k : Int → Int → Hp → Prop) : St → Hp → Prop := fun σ H => ta σ H fun x H1 => tb σ H1 fun y H2 => ∃ i j, x = .int i ∧ y = .int j ∧ k i j H2
def tAdd (ta tb : TE) : TE := fun σ H Q => t2I ta tb (fun i j H2 => Q (.int (i + j)) H2) σ H
def tSub (ta tb : TE) : TE := fun σ H Q => t2I ta tb (fun i j H2 => Q (.int (i - j)) H2) σ H
def tMul (ta tb : TE) : TE := fun σ H Q => t2I ta tb (fun i j H2 => (-(2 ^ 64) < i ∧ i < 2 ^ 64) ∧ Q (.int (i * j)) H2) σ H
variable {a b : Expr} {ta tb : TE} {pos : Pos}
def PC (X : Cx) (op : CmpOp) (a b : Expr) (t : TE) : Prop :=
  ∀ (pins : List (Addr × Obj)) (s : Shared) (σ : St) (H : Hp) (Q : VK), Inv X pins σ H s → t σ H Q →
    wpAny (model X.prog X.w) X.A (eval a X.env) (fun v s₁ => wpAny (model X.prog X.w) X.A (eval b X.env) (fun u s₂ => wpAny (model X.prog X.w) X.A (compareOp op v u) (EP X pins σ Q) X.xe s₂) X.xe s₁) X.xe s
theorem nobehind (b : Expr) {op : CmpOp} (h : op ≠ .In) (h2 : op ≠ .NotIn) : behindInMarks op b = false := by
  have e1 : (op == CmpOp.In) = false := by cases op <;> first | rfl | exact absurd rfl h
  have e2 : (op == CmpOp.NotIn) = false := by cases op <;> first | rfl | exact absurd rfl h2
  cases b <;> simp [behindInMarks, e1, e2]
def tCmp (p : Int → Int → Bool) (ta tb : TE) : TE := fun σ H Q => t2I ta tb (fun i j H2 => Q (.bl (p i j)) H2) σ H
abbrev tLt : TE → TE → TE := tCmp fun i j => decide (i < j)
abbrev tLe : TE → TE → TE := tCmp fun i j => decide (i ≤ j)
abbrev tGt : TE → TE → TE := tCmp fun i j => decide (j < i)
abbrev tGe : TE → TE → TE := tCmp fun i j => decide (j ≤ i)
abbrev tEqI : TE → TE → TE := tCmp fun i j => decide (i = j)
abbrev tNeI : TE → TE → TE := tCmp fun i j => !decide (i = j)
def tIsN (ta : TE) : TE := fun σ H Q => ta σ H fun x H1 => Q (.bl (decide (x = .non))) H1
def tNotN (ta : TE) : TE := fun σ H Q => ta σ H fun x H1 => Q (.bl (!decide (x = .non))) H1
def tB (t : TE) : TT := fun σ H Q => t σ H fun x H1 => ∃ c, x = .bl c ∧ Q c H1
theorem pt_cmp {op : CmpOp} {t : TE} (h : PC X op a b t) (h1 : behindInMarks op b = false := by first | exact nobehind _ (by decide) (by decide) | rfl) : PT X (.Compare a [op] [b] pos) (tB t) := by
  intro pins s σ H Q I hw
  refine wpAny_isTrue_Compare1 (thn (h pins s σ H _ I hw) fun v s1 h1 => thn h1 fun u s2 h2 => thn h2 fun c s3 ⟨x, H1, I1, r1, q1⟩ => ?_) h1
  obtain ⟨d, rfl, q⟩ := q1
  cases r1
  exact wpAny_truthy_bool ⟨H1, I1, q⟩
theorem pt_val {e : Expr} {t : TE} (h : PE X e t) (he : ∀ whole, isTrue e X.env whole = (do let v ← whole; standAt e.pos; holding [v] (truthy v)) := by intro _; rfl) : PT X e (tB t) := by
  intro pins s σ H Q I hw
  refine isTrue_plain (thn (h pins s σ H _ I hw) fun v s1 ⟨x, H1, I1, r1, q1⟩ => ?_) (he _)
  obtain ⟨d, rfl, q⟩ := q1
  cases r1
  exact wpAny_truthy_bool ⟨H1, I1, q⟩

variable {tA tB' : TT} {rest : List Expr}
def tAnd (t u : TT) : TT := fun σ H Q => t σ H fun c H1 => if c = true then u σ H1 Q else Q false H1
def tOr (t u : TT) : TT := fun σ H Q => t σ H fun c H1 => if c = true then Q true H1 else u σ H1 Q
def tNot (t : TT) : TT := fun σ H Q => t σ H fun c H1 => Q (!c) H1
theorem pw_and1 (ha : PT X a tA) : PW X (.BoolOp .And [a] pos) tA := by
  intro wh pins s σ H Q I h
  refine isTrue_and (thn (ha pins s σ H Q I h) fun c s1 e => ?_)
  cases c with
  | true => exact isTrue_and_nil e
  | false => exact e
theorem pw_or1 (ha : PT X a tA) : PW X (.BoolOp .Or [a] pos) tA := by
  intro wh pins s σ H Q I h
  refine isTrue_or (thn (ha pins s σ H Q I h) fun c s1 e => ?_)
  cases c with
  | false => exact isTrue_or_nil e
  | true => exact e
theorem pw_and (ha : PT X a tA) (hb : PW X (.BoolOp .And (b :: rest) pos) tB') : PW X (.BoolOp .And (a :: b :: rest) pos) (tAnd tA tB') := by
  intro wh pins s σ H Q I h
  refine isTrue_and (thn (ha pins s σ H _ I h) fun c s1 ⟨H1, I1, q1⟩ => ?_)
  cases c with
  | true => exact hb wh pins s1 σ H1 Q I1 q1
  | false => exact ⟨H1, I1, q1⟩
theorem pw_or (ha : PT X a tA) (hb : PW X (.BoolOp .Or (b :: rest) pos) tB') : PW X (.BoolOp .Or (a :: b :: rest) pos) (tOr tA tB') := by
  intro wh pins s σ H Q I h
  refine isTrue_or (thn (ha pins s σ H _ I h) fun c s1 ⟨H1, I1, q1⟩ => ?_)
  cases c with
  | true => exact ⟨H1, I1, q1⟩
  | false => exact hb wh pins s1 σ H1 Q I1 q1
theorem pt_not (ha : PT X a tA) : PT X (.UnaryOp .Not a pos) (tNot tA) := by
  intro pins s σ H Q I h
  exact isTrue_not (ha pins s σ H (fun c H1 => Q (!c) H1) I h)
def tAndV (ta tb : TE) : TE := fun σ H Q => ta σ H fun x H1 => ∃ c, x = .bl c ∧ if c = true then tb σ H1 Q else Q (.bl false) H1
def tOrV (ta tb : TE) : TE := fun σ H Q => ta σ H fun x H1 => ∃ c, x = .bl c ∧ if c = true then Q (.bl true) H1 else tb σ H1 Q
def tNotV (ta : TE) : TE := fun σ H Q => ta σ H fun x H1 => ∃ c, x = .bl c ∧ Q (.bl (!c)) H1
theorem pe_one {op} {t : TE} (h : PE X a t) : PE X (.BoolOp op [a] pos) t := fun pins s σ H Q I hw => BoolOp_one (h pins s σ H Q I hw)
theorem pe_and (ha : PE X a ta) (hb : PE X (.BoolOp .And (b :: rest) pos) tb) : PE X (.BoolOp .And (a :: b :: rest) pos) (tAndV ta tb) := by
  intro pins s σ H Q I h
  refine BoolOp_and (thn (ha pins s σ H _ I h) fun v s1 ⟨x, H1, I1, r1, q1⟩ => ?_)
  obtain ⟨c, rfl, q1⟩ := q1
  cases r1
  refine wpAny_truthy_bool ?_
  cases c with
  | true => exact hb pins s1 σ H1 Q I1 q1
  | false => exact ⟨.bl false, H1, I1, rfl, q1⟩
theorem pe_not (ha : PE X a ta) : PE X (.UnaryOp .Not a pos) (tNotV ta) := by
  intro pins s σ H Q I h
  refine UnaryOp_ (thn (ha pins s σ H _ I h) fun v s1 ⟨x, H1, I1, r1, q1⟩ => ?_)
  obtain ⟨c, rfl, q1⟩ := q1
  cases r1
  exact not_of (wpAny_truthy_bool ⟨.bl (!c), H1, I1, rfl, q1⟩)
def tIf (t : TT) (ta tb : TE) : TE := fun σ H Q => t σ H fun c H1 => if c = true then ta σ H1 Q else tb σ H1 Q
end
end L2

namespace L2
open PySem PySem.Spec PyProof.Rows

def SqL (K : PySem.W.Frag) (H : Hp) (a : Addr) (xs : List V) : Prop :=
  Rd H a (.lst xs) ∨
    ∃ (o : Obj) (its : Array Value) (n : Nat), K.lookup a = some o ∧ o.cls = .type "list" ∧ o.dict = none ∧ o.data = .seq its n ∧ its.size ≤ sizeLine ∧ Vals xs its.toList
def SqT (K : PySem.W.Frag) (H : Hp) (a : Addr) (xs : List V) : Prop :=
  Rd H a (.tup xs) ∨
    ∃ (o : Obj) (its : Array Value) (n : Nat), K.lookup a = some o ∧ o.cls = .type "tuple" ∧ o.data = .seq its n ∧ its.size ≤ sizeLine ∧ Vals xs its.toList
def absV : Value → Option V
  | .none => some .non
  | .bool b => some (.bl b)
  | .int i _ => some (.int i)
  | .str x _ => some (.str x)
  | .bytes b _ => some (.byt b)
  | .float b _ => some (.flt b)
  | .ref a => some (.ref a)
  | .type n => some (.ty n)
  | _ => none
theorem RelV.abs {x : V} {u : Value} (r : RelV x u) : absV u = some x := by
  cases x with
  | non => cases r; rfl
  | bl _ => cases r; rfl
  | int _ => obtain ⟨t, rfl⟩ := r; rfl
  | str _ => obtain ⟨t, rfl⟩ := r; rfl
  | byt _ => obtain ⟨t, rfl⟩ := r; rfl
  | flt _ => obtain ⟨t, rfl⟩ := r; rfl
  | ref _ => cases r; rfl
  | ty _ => cases r; rfl
theorem RelV.inj {x y : V} {u : Value} (r : RelV x u) (q : RelV y u) : x = y := Option.some.inj (r.abs.symm.trans q.abs)
theorem Vals.inj : ∀ {xs ys : List V} {us : List Value}, Vals xs us → Vals ys us → xs = ys
  | _, _, _, .nil, .nil => rfl
  | _, _, _, .cons r t, .cons r' t' => by rw [r.inj r', Vals.inj t t']
section
variable {X : Cx} {pins : List (Addr × Obj)} {σ : St} {H : Hp} {s : Shared} {a : Addr} {xs ys : List V}
theorem SqL.of {K : PySem.W.Frag} (h : H a = some (.lst xs)) : SqL K H a xs := .inl (.inl h)
theorem SqT.of {K : PySem.W.Frag} (h : H a = some (.tup xs)) : SqT K H a xs := .inl (.inl h)
theorem Inv.list (I : Inv X pins σ H s) (h : SqL X.K H a xs) : ∃ its : List Value, Vals xs its ∧ PlainL s.heap a its.toArray ∧ xs.length ≤ sizeLine := by
  rcases h with h | ⟨o, its, n, hk, hc, hd, hs, hz, r⟩
  · obtain ⟨z, its, n, r, e⟩ := h.ok I.hok
    exact ⟨its, r, ⟨_, n, e, rfl, rfl, rfl⟩, z⟩
  · refine ⟨its.toList, r, ⟨o, n, I.kIn a o hk, hc, hd, by simpa using hs⟩, ?_⟩
    have e := r.length
    simp only [Array.length_toList] at e
    omega
theorem Inv.tuple (I : Inv X pins σ H s) (h : SqT X.K H a xs) : ∃ its : List Value, Vals xs its ∧ IsTup s.heap a its.toArray ∧ xs.length ≤ sizeLine := by
  rcases h with h | ⟨o, its, n, hk, hc, hs, hz, r⟩
  · obtain ⟨z, its, r, p⟩ := h.ok I.hok
    exact ⟨its, r, p, z⟩
  · refine ⟨its.toList, r, ⟨o, I.kIn a o hk, hc, n, by simpa using hs⟩, ?_⟩
    have e := r.length
    simp only [Array.length_toList] at e
    omega
theorem Inv.list_inj (I : Inv X pins σ H s) (h : SqL X.K H a xs) (h' : SqL X.K H a ys) : xs = ys := by
  obtain ⟨its, r, ⟨o, n, e, _, _, d⟩, _⟩ := I.list h
  obtain ⟨its', r', ⟨o', n', e', _, _, d'⟩, _⟩ := I.list h'
  rw [e] at e'; cases e'
  rw [d] at d'
  injection d' with d1 _
  have : its = its' := by simpa using congrArg Array.toList d1
  subst this
  exact r.inj r'
theorem Inv.tuple_inj (I : Inv X pins σ H s) (h : SqT X.K H a xs) (h' : SqT X.K H a ys) : xs = ys := by
  obtain ⟨its, r, ⟨o, e, _, n, d⟩, _⟩ := I.tuple h
  obtain ⟨its', r', ⟨o', e', _, n', d'⟩, _⟩ := I.tuple h'
  rw [e] at e'; cases e'
  rw [d] at d'
  injection d' with d1 _
  have : its = its' := by simpa using congrArg Array.toList d1
  subst this
  exact r.inj r'
end

abbrev Cx.wish (X : Cx) (E : Value → Shared → Prop) : Cx := { X with xe := E }
abbrev Cx.nox (X : Cx) : Cx := X.wish fun _ _ => False
theorem Cx.Ok.wish {X : Cx} (ok : X.Ok) (E : Value → Shared → Prop) : (X.wish E).Ok :=
  ⟨ok.mod, ok.kind, ok.glob, ok.blt, ok.above, ok.inj, ok.has, ok.cab, ok.hd, ok.frames, ok.stk, ok.exf, ok.bs, ok.bsz, ok.noex, ok.exfs, ok.funs, ok.frf⟩
theorem Cx.Ok.unwish {X : Cx} {E : Value → Shared → Prop} (ok : (X.wish E).Ok) : X.Ok :=
  ⟨ok.mod, ok.kind, ok.glob, ok.blt, ok.above, ok.inj, ok.has, ok.cab, ok.hd, ok.frames, ok.stk, ok.exf, ok.bs, ok.bsz, ok.noex, ok.exfs, ok.funs, ok.frf⟩
section
variable {X : Cx} {pins : List (Addr × Obj)} {σ : St} {H : Hp} {s : Shared} {E : Value → Shared → Prop}
theorem Inv.wish (I : Inv X pins σ H s) (E : Value → Shared → Prop) : Inv (X.wish E) pins σ H s := ⟨I.ok.wish E, I.os, I.bare, I.base, I.loc, I.cell, I.free, I.freeC, I.pin, I.hok, I.len⟩
theorem Inv.unwish (I : Inv (X.wish E) pins σ H s) : Inv X pins σ H s := ⟨I.ok.unwish, I.os, I.bare, I.base, I.loc, I.cell, I.free, I.freeC, I.pin, I.hok, I.len⟩
theorem SP.unwish {D : Ends} {f : Flow} {s' : Shared} (h : SP (X.wish E) pins D f s') : SP X pins D f s' := by
  cases f with
  | next => obtain ⟨σ', H', I, q⟩ := h; exact ⟨σ', H', I.unwish, q⟩
  | brk => obtain ⟨σ', H', I, q⟩ := h; exact ⟨σ', H', I.unwish, q⟩
  | cont => obtain ⟨σ', H', I, q⟩ := h; exact ⟨σ', H', I.unwish, q⟩
  | ret u => obtain ⟨v, σ', H', I, r, q⟩ := h; exact ⟨v, σ', H', I.unwish, r, q⟩
theorem PSs.nox {st : List Stmt} {t : TS} (h : PSs X.nox st t) : PSs X st t := fun pins s σ H D I hw =>
  wpAny_mono (h pins s σ H D (I.wish _) hw) (fun _ _ q => q.unwish) fun _ _ z => False.elim z
end

section
variable {X : Cx} {st : Stmt} {rest : List Stmt} {t u : TS} {e : Expr} {te : TE} {pos : Pos}
def tNext : TS := fun D σ H => D.nx σ H
def tSeq (t u : TS) : TS := fun D σ H => t { D with nx := u D } σ H
theorem pss_nil : PSs X [] tNext := fun _ _ σ H _ I h => wpAny_execs_nil ⟨σ, H, I, h⟩
theorem pss_cons (h1 : PS X st t) (h2 : PSs X rest u) : PSs X (st :: rest) (tSeq t u) := by
  intro pins s σ H D I h
  refine wpAny_execs_cons (thn (h1 pins s σ H { D with nx := u D } I h) fun f s1 q => ?_)
  cases f with
  | next =>
    obtain ⟨σ', H', I', q⟩ := q
    exact h2 pins s1 σ' H' D I' q
  | ret v => exact q
  | brk => exact q
  | cont => exact q
theorem pss_one (h1 : PS X st t) : PSs X [st] t := by
  intro pins s σ H D I h
  refine wpAny_execs_cons (thn (h1 pins s σ H D I h) fun f s1 q => ?_)
  cases f with
  | next => exact wpAny_execs_nil q
  | ret v => exact q
  | brk => exact q
  | cont => exact q
def tBreak : TS := fun D σ H => D.bk σ H
def tCont : TS := fun D σ H => D.ct σ H
theorem Inv.quiet {pins : List (Addr × Obj)} {σ : St} {H : Hp} {s : Shared} (I : Inv X pins σ H s) : interactive X.env = false := by simp [interactive, I.ok.kind]
def tDrop (te : TE) : TS := fun D σ H => te σ H fun _ H1 => D.nx σ H1
theorem ps_expr (he : PE X e te) (hs : swapsWith e none pos.line X.env = pure false := by rfl) : PS X (.Expr e pos) (tDrop te) := by
  intro pins s σ H D I h
  exact wpAny_Expr_any (thn (he pins s σ H _ I h) fun v s1 ⟨x, H1, I1, r1, q1⟩ => ⟨σ, H1, I1, q1⟩) I.quiet hs
def tRet (te : TE) : TS := fun D σ H => te σ H D.rt
theorem ps_ret (he : PE X e te) : PS X (.Return (some e) pos) (tRet te) := by
  intro pins s σ H D I h
  exact wpAny_Return_some (thn (he pins s σ H _ I h) fun v s1 ⟨x, H1, I1, r1, q1⟩ => ⟨x, σ, H1, I1, r1, q1⟩)
def tRetN : TS := fun D _ H => D.rt .non H
def tIfS (c : TT) (t u : TS) : TS := fun D σ H => c σ H fun b H1 => if b = true then t D σ H1 else u D σ H1
theorem ps_if {c : Expr} {a b : List Stmt} {tc : TT} (hc : PT X c tc) (ha : PSs X a t) (hb : PSs X b u) : PS X (.If c a b pos) (tIfS tc t u) := by
  intro pins s σ H D I h
  refine wpAny_If (thn (hc pins s σ H _ I h) fun d s1 ⟨H1, I1, q1⟩ => ?_)
  cases d with
  | true => exact ha pins s1 σ H1 D I1 q1
  | false => exact hb pins s1 σ H1 D I1 q1
def tNever : TS := fun _ _ _ => False
theorem pss_never {sts : List Stmt} : PSs X sts tNever := fun _ _ _ _ _ _ h => h.elim
end

abbrev TG := V → St → Hp → (St → Hp → Prop) → Prop
abbrev TGs := List V → St → Hp → (St → Hp → Prop) → Prop
def PG (X : Cx) (target : Expr) (t : TG) : Prop :=
  ∀ (pins : List (Addr × Obj)) (s : Shared) (σ : St) (H : Hp) (v : V) (u : Value) (Q : St → Hp → Prop), Inv X pins σ H s → RelV v u → t v σ H Q →
    wpAny (model X.prog X.w) X.A (assign target X.env u) (fun _ s' => ∃ σ' H', Inv X pins σ' H' s' ∧ Q σ' H') X.xe s
def PGs (X : Cx) (ts : List Expr) (t : TGs) : Prop :=
  ∀ (pins : List (Addr × Obj)) (s : Shared) (σ : St) (H : Hp) (vs : List V) (us : List Value) (Q : St → Hp → Prop), Inv X pins σ H s → Vals vs us → t vs σ H Q →
    wpAny (model X.prog X.w) X.A (assignInOrder ((assignEach ts X.env).map (·.2)) us) (fun _ s' => ∃ σ' H', Inv X pins σ' H' s' ∧ Q σ' H') X.xe s
abbrev TSet := V → V → V → Hp → (Hp → Prop) → Prop
def PSet (X : Cx) (t : TSet) : Prop :=
  ∀ (pins : List (Addr × Obj)) (s : Shared) (σ : St) (H : Hp) (o i v : V) (ov iv u : Value) (Q : Hp → Prop), Inv X pins σ H s → RelV o ov → RelV i iv → RelV v u → t o i v H Q →
    wpAny (model X.prog X.w) X.A (setItem ov iv u) (fun _ s' => ∃ H', Inv X pins σ H' s' ∧ Q H') X.xe s
abbrev TIp := V → V → Hp → VK → Prop
def PIp (X : Cx) (op : Operator) (t : TIp) : Prop :=
  ∀ (pins : List (Addr × Obj)) (s : Shared) (σ : St) (H : Hp) (x y : V) (v u : Value) (Q : VK), Inv X pins σ H s → RelV x v → RelV y u → t x y H Q →
    wpAny (model X.prog X.w) X.A (inplaceOp op v u) (EP X pins σ Q) X.xe s
section
variable {X : Cx} {pos : Pos}
def gName (i : Nat) : TG := fun v σ H Q => Q (σ.set i (some v)) H
theorem pg_name {i : Nat} {x : Str} (hN : X.N.Nodup) (hi : X.N[i]? = some x) (hx : Loc X.env.scope x) (hf : X.fn x = true ∨ X.env.scope.names.lookup x = some .local := by first | exact .inl rfl | exact .inr rfl | assumption) : PG X (.Name x pos) (gName i) := by
  intro pins s σ H v u Q I r h
  exact wpAny_assign_Name (store_ok I hN hi hx r (fun s' I' => ⟨_, H, I', h⟩) hf)
def gNil : TGs := fun vs σ H Q => vs = [] ∧ Q σ H
def gCons (t : TG) (u : TGs) : TGs := fun vs σ H Q => ∃ v r, vs = v :: r ∧ t v σ H fun σ' H' => u r σ' H' Q
theorem pgs_nil : PGs X [] gNil := by
  intro pins s σ H vs us Q I r h
  obtain ⟨e, h⟩ := h
  subst e
  cases r
  exact assignInOrder_nil ⟨σ, H, I, h⟩
theorem pgs_cons {e : Expr} {es : List Expr} {t : TG} {u : TGs} (h1 : PG X e t) (h2 : PGs X es u)
    (hs : (assignEach (e :: es) X.env).map (·.2) = assign e X.env :: (assignEach es X.env).map (·.2) := by rfl) : PGs X (e :: es) (gCons t u) := by
  intro pins s σ H vs us Q I r h
  obtain ⟨v, vr, e1, h⟩ := h
  subst e1
  cases r with
  | cons r rr =>
    rw [hs]
    refine assignInOrder_cons (thn (h1 pins s σ H _ _ _ I r h) fun _ s1 ⟨σ1, H1, I1, q1⟩ => ?_)
    exact h2 pins s1 σ1 H1 _ _ Q I1 rr q1
def gTup (K : PySem.W.Frag) (n : Nat) (t : TGs) : TG := fun v σ H Q => ∃ a xs, v = .ref a ∧ SqT K H a xs ∧ xs.length = n ∧ t xs σ H Q
theorem pg_tup {es : List Expr} {k : Nat} {t : TGs} {n : Nat} (hc : X.calm = true) (h : PGs X es t)
    (hn : (assignEach es X.env).length = n := by rfl) (hst : (assignEach es X.env).findIdx? (·.1) = none := by rfl) : PG X (.Tuple es k pos) (gTup X.K n t) := by
  intro pins s σ H v u Q I r hw
  obtain ⟨a, xs, e1, hq, hl, hw⟩ := hw
  subst e1
  cases r
  obtain ⟨its, rv, ht, hz⟩ := I.tuple hq
  refine assign_Tuple_tuple (I.ok.hd hc) ht (by simp [hn, ← hl, rv.length]) hst fun h' hx => ?_
  have I1 : Inv X pins σ H { s with heap := h' } := I.kept (t' := s.toks) fun b o e => hx b o (Nat.ne_of_lt (Heap.lt_size e)) e
  exact h pins _ σ H xs _ Q I1 (by simpa using rv) hw
def gSub (to ti : TE) (t : TSet) : TG := fun v σ H Q => to σ H fun o H1 => ti σ H1 fun i H2 => t o i v H2 fun H3 => Q σ H3
theorem pg_sub {o i : Expr} {to ti : TE} {t : TSet} (ho : PE X o to) (hi : PE X i ti) (hs : PSet X t)
    (ha : ∀ v, assign (.Subscript o i pos) X.env v = (do
      let ov ← holding [v] (eval o X.env)
      let iv ← holding [v, ov] (eval i X.env)
      standAt pos
      holding [v, ov, iv] (setItem ov iv v)
      release [v, ov, iv] []) := by intro _; rfl) : PG X (.Subscript o i pos) (gSub to ti t) := by
  intro pins s σ H v u Q I r h
  rw [ha]
  refine wpAny_bind (wpAny_holding (thn (ho pins s σ H _ I h) fun ov s1 ⟨x, H1, I1, r1, q1⟩ => ?_))
  refine wpAny_bind (wpAny_holding (thn (hi pins s1 σ H1 _ I1 q1) fun iv s2 ⟨y, H2, I2, r2, q2⟩ => ?_))
  refine wpAny_bind (wpAny_standAt (wpAny_bind (wpAny_holding (thn (hs pins s2 σ H2 x y v ov iv u _ I2 r1 r2 r q2) fun _ s3 ⟨H3, I3, q3⟩ => ?_))))
  exact wpAny_release ⟨σ, H3, I3, q3⟩
def tAsg (te : TE) (g : TG) : TS := fun D σ H => te σ H fun x H1 => g x σ H1 D.nx
theorem ps_asg {tg e : Expr} {te : TE} {g : TG} (he : PE X e te) (hg : PG X tg g) (hs : swapsWithSole [tg] e pos.line X.env = pure false := by rfl) (hw : swappedStores [tg] e X.env = pure none := by rfl)
    (h1 : (assignEach [tg] X.env).map (·.2) = [assign tg X.env] := by rfl) : PS X (.Assign [tg] e pos) (tAsg te g) := by
  intro pins s σ H D I h
  refine wpAny_Assign_stores (thn (he pins s σ H _ I h) fun v s1 ⟨x, H1, I1, r1, q1⟩ => ?_) hs hw
  rw [h1]
  exact thn (hg pins s1 σ H1 x v _ I1 r1 q1) fun _ s2 q => q
theorem ps_set {i : Nat} {x : Str} {e : Expr} {te : TE} {pos' : Pos} (hN : X.N.Nodup) (hi : X.N[i]? = some x) (hx : Loc X.env.scope x) (he : PE X e te) (hs : swapsWith e (some (.Name x pos')) pos.line X.env = pure false := by rfl) (hf : X.fn x = true ∨ X.env.scope.names.lookup x = some .local := by first | exact .inl rfl | exact .inr rfl | assumption) :
    PS X (.Assign [.Name x pos'] e pos) (tAsg te (gName i)) := by
  intro pins s σ H D I h
  refine wpAny_Assign_Name (thn (he pins s σ H _ I h) fun v s1 ⟨y, H1, I1, r1, q1⟩ => ?_) hs
  exact store_ok I1 hN hi hx r1 (fun s2 I2 => ⟨_, H1, I2, q1⟩) hf
def tPar (i j : Nat) (ta : TA) : TS := fun D σ H => ta σ H fun vs H1 => ∃ v w, vs = [v, w] ∧ D.nx ((σ.set i (some v)).set j (some w)) H1
def tAug (i : Nat) (te : TE) (ti : TIp) : TS := fun D σ H => ∃ x, σ[i]? = some (some x) ∧ te σ H fun y H1 => ti x y H1 fun z H2 => D.nx (σ.set i (some z)) H2
def tAugS (to ti te : TE) (tget : V → V → Hp → VK → Prop) (tip : TIp) (tset : TSet) : TS := fun D σ H => to σ H fun o H1 => ti σ H1 fun i H2 => tget o i H2 fun x H3 => te σ H3 fun y H4 => tip x y H4 fun z H5 => tset o i z H5 fun H6 => D.nx σ H6
def PGet (X : Cx) (t : V → V → Hp → VK → Prop) : Prop :=
  ∀ (pins : List (Addr × Obj)) (s : Shared) (σ : St) (H : Hp) (o i : V) (ov iv : Value) (Q : VK), Inv X pins σ H s → RelV o ov → RelV i iv → t o i H Q →
    wpAny (model X.prog X.w) X.A (getItem ov iv) (EP X pins σ Q) X.xe s
def ipI (f : Int → Int → Int) : TIp := fun x y H Q => ∃ i j, x = .int i ∧ y = .int j ∧ Q (.int (f i j)) H
end

section
variable {X : Cx} {pos : Pos}
def tWhile (c : TT) (tb : TS) : TS := fun D σ H => ∃ W : Nat → St → Hp → Prop, (∃ m, W m σ H) ∧ ∀ m σ H, W m σ H →
  c σ H fun b H1 => if b = true then ∃ N : St → Hp → Prop, (∀ σ' H', N σ' H' → ∃ m', m' < m ∧ W m' σ' H') ∧ tb { D with nx := N, ct := N, bk := D.nx } σ H1 else D.nx σ H1
theorem ps_while {c : Expr} {body : List Stmt} {tc : TT} {tb : TS} (hp : PassesOwn (model X.prog X.w) X.A X.env X.xe) (hc : PT X c tc) (hb : PSs X body tb) : PS X (.While c body [] pos) (tWhile tc tb) := by
  intro pins s σ H D I h
  obtain ⟨W, ⟨m0, w0⟩, turn⟩ := h
  refine wpAny_While (codeAny_whileLoop (fun n s' => ∃ σ' H', Inv X pins σ' H' s' ∧ W n σ' H') ?_ m0 ⟨σ, H, I, w0⟩)
  rintro n s1 ⟨σ1, H1, I1, w1⟩
  refine wpAny_passesOwn hp (thn (hc pins s1 σ1 H1 _ I1 (turn n σ1 H1 w1)) fun b s2 ⟨H2, I2, q2⟩ => ?_)
  cases b with
  | true =>
    obtain ⟨N, hN, q2⟩ := q2
    rw [if_pos rfl]
    refine wpAny_passesOwn hp (thn (hb pins s2 σ1 H2 _ I2 q2) fun f s3 q3 => ?_)
    cases f with
    | next =>
      obtain ⟨σ3, H3, I3, n3⟩ := q3
      obtain ⟨m', hm, w3⟩ := hN σ3 H3 n3
      exact ⟨m', hm, σ3, H3, I3, w3⟩
    | cont =>
      obtain ⟨σ3, H3, I3, n3⟩ := q3
      obtain ⟨m', hm, w3⟩ := hN σ3 H3 n3
      exact ⟨m', hm, σ3, H3, I3, w3⟩
    | brk => exact q3
    | ret v => exact q3
  | false =>
    rw [if_neg Bool.false_ne_true]
    exact wpAny_execs_nil ⟨σ1, H2, I2, q2⟩
end

structure It where
  go : Nat → Hp → Prop
  yld : Nat → Hp → V → Hp → Prop
  stop : Nat → Hp → Prop
def FpOk (X : Cx) (pins : List (Addr × Obj)) (H : Hp) (b : Addr) : Prop :=
  H b = none ∧ b ≠ X.env.locals ∧ b ∉ X.fs ∧ (b ∈ X.ex ∨ X.s₀.heap.objs.size ≤ b) ∧ (∀ x c, X.env.cells.lookup x = some c → c ≠ b) ∧ ∀ p ∈ X.pn ++ pins, p.1 ≠ b
theorem Inv.fpOk {X : Cx} {pins : List (Addr × Obj)} {σ : St} {H H' : Hp} {s : Shared} {b : Addr} (I : Inv X pins σ H s) (hb : s.heap.objs.size ≤ b) (hn : H' b = none) : FpOk X pins H' b := by
  refine ⟨hn, Nat.ne_of_gt (Nat.lt_of_lt_of_le I.lt hb), I.nofs hb, .inr (Nat.le_trans I.sz hb), fun x c e z => ?_, fun p hp z => ?_⟩
  · obtain ⟨v, q⟩ := I.cell x c e
    exact absurd (Nat.lt_of_lt_of_le q.lt (by rw [z]; exact hb)) (Nat.lt_irrefl _)
  · exact absurd (Nat.lt_of_lt_of_le (Heap.lt_size (I.pin p hp).1) (by rw [z]; exact hb)) (Nat.lt_irrefl _)
structure Turn (P : Program) (w : World) (K : PySem.W.Frag) (tg : Expr) (J : It) (fp : List Addr) (it : Addr) (tn : Nat → Heap → Prop) : Prop where
  mem : it ∈ fp
  obj : ∀ i h, tn i h → ∀ b ∈ fp, ∃ o, h.get? b = some o ∧ ∀ v, o.data ≠ .cell v
  keep : ∀ i h h', tn i h → (∀ b ∈ fp, ∀ o, h.get? b = some o → h'.get? b = some o) → tn i h'
  item : ∀ (X : Cx), X.prog = P → X.w = w → X.K = K → X.calm = true → ∀ (i : Nat) (pins : List (Addr × Obj)) (s : Shared) (σ : St) (H : Hp) (E : Value → Shared → Prop), Inv X pins σ H s → (∀ b ∈ fp, FpOk X pins H b) → tn i s.heap → J.go i H →
    wpAny (model P w) X.A (pyNext (.ref it)) (fun r s1 => ∃ u, r = some u ∧
      wpAny (model P w) X.A (letOwnedTupleGo tg (.ref it) u) (fun _ s2 => ∃ x H', Inv X pins σ H' s2 ∧ RelV x u ∧ J.yld i H x H' ∧ tn (i + 1) s2.heap ∧ ∀ b ∈ fp, H' b = none) E s1) E s
  done : ∀ (X : Cx), X.prog = P → X.w = w → X.K = K → X.calm = true → ∀ (i : Nat) (pins : List (Addr × Obj)) (s : Shared) (σ : St) (H : Hp) (E : Value → Shared → Prop), Inv X pins σ H s → (∀ b ∈ fp, FpOk X pins H b) → tn i s.heap → J.stop i H →
    wpAny (model P w) X.A (pyNext (.ref it)) (fun r s1 => r = none ∧ Inv X pins σ H s1) E s
  self : ∀ (A : Around) (i : Nat) (s : Shared) (Q : Value → Shared → Prop) (E : Value → Shared → Prop), tn i s.heap → Q (.ref it) s → wpAny (model P w) A (pyIter (.ref it)) Q E s
abbrev TI := St → Hp → (It → Hp → Prop) → Prop
def PIE (X : Cx) (pins : List (Addr × Obj)) (σ : St) (tg : Expr) (R : It → Hp → Prop) (itv : Value) (s2 : Shared) : Prop :=
  ∃ (it : Addr) (fp : List Addr) (tn : Nat → Heap → Prop) (J : It) (H' : Hp), itv = .ref it ∧ Inv X pins σ H' s2 ∧ Turn X.prog X.w X.K tg J fp it tn ∧ tn 0 s2.heap ∧ (∀ b ∈ fp, FpOk X pins H' b) ∧ R J H'
def PI (X : Cx) (tg iter : Expr) (wi : TI) : Prop :=
  ∀ (pins : List (Addr × Obj)) (s : Shared) (σ : St) (H : Hp) (R : It → Hp → Prop), Inv X pins σ H s → wi σ H R →
    wpAny (model X.prog X.w) X.A (eval iter X.env) (fun v s1 => wpAny (model X.prog X.w) X.A (pyIter v) (PIE X pins σ tg R) X.xe s1) X.xe s

theorem go_of {M : Model} {A : Around} {E : Value → Shared → Prop} {s : Shared} {tg : Expr} {it : Addr} {u : Value} {o : Obj} {n : String} {vs : Array Value} {Q : Unit → Shared → Prop} (ho : s.heap.get? it = some o) (hc : o.cls = .type n) (hd : o.data = .fields vs)
    (hn : ["enumerate", "zip", "dict_itemiterator", "dict_reverseitemiterator", "odict_iterator", "itertools.zip_longest", "itertools.pairwise"].contains n = false) (hQ : Q () s) : wpAny M A (letOwnedTupleGo tg (.ref it) u) Q E s := by
  unfold letOwnedTupleGo
  cases tg <;> first
    | exact wpAny_pure hQ
    | (cases u <;> first
        | exact wpAny_pure hQ
        | (refine wpAny_bind (wpAny_load ho ?_)
           rw [hc, hd]
           show wpAny M A (if (["enumerate", "zip", "dict_itemiterator", "dict_reverseitemiterator", "odict_iterator", "itertools.zip_longest", "itertools.pairwise"].contains n && vs[0]? == some (rawInt _)) = true then _ else _) Q E s
           rw [if_neg (by intro h; rw [hn, Bool.false_and] at h; cases h)]
           exact wpAny_pure hQ))

def Itl (K : PySem.W.Frag) (a : Addr) : It :=
  ⟨fun i H => ∃ xs x, SqL K H a xs ∧ xs[i]? = some x, fun i H x H' => H' = H ∧ ∀ xs, SqL K H a xs → xs[i]? = some x, fun i H => ∃ xs, SqL K H a xs ∧ xs.length ≤ i⟩
def Itt (K : PySem.W.Frag) (a : Addr) : It :=
  ⟨fun i H => ∃ xs x, SqT K H a xs ∧ xs[i]? = some x, fun i H x H' => H' = H ∧ ∀ xs, SqT K H a xs → xs[i]? = some x, fun i H => ∃ xs, SqT K H a xs ∧ xs.length ≤ i⟩
def Itr (lo : Int) (n : Nat) : It := ⟨fun i _ => i < n, fun i H x H' => H' = H ∧ x = .int (lo + i), fun i _ => n ≤ i⟩
theorem turn_list {P : Program} {w : World} {K : PySem.W.Frag} {tg : Expr} (a it : Addr) : Turn P w K tg (Itl K a) [it] it (fun i h => h.IsListIter it a i) where
  mem := by simp
  obj := fun i h st b hb => by
    have e : b = it := by simpa using hb
    subst e
    obtain ⟨o, e, c, d⟩ := st
    exact ⟨o, e, fun v z => by rw [d] at z; cases z⟩
  keep := fun i h h' st k => st.at fun o e => k it (by simp) o e
  item := by
    intro X hP hw hK hc i pins s σ H E I hf st hg
    subst hP hw hK
    obtain ⟨xs, x, hq, hx⟩ := hg
    obtain ⟨its, rv, p, hz⟩ := I.list hq
    obtain ⟨u, hu, ru⟩ := rv.get hx
    obtain ⟨f0, f1, f2, f3, f4, f5⟩ := hf it (by simp)
    refine wpAny_pyNext_list_item st p.isList (x := u) (by simpa using hu) fun h' st' sb => ?_
    have I1 : Inv X pins σ H { s with heap := h' } := I.turned (t' := s.toks) (fun b o hb e => (sb.2 b hb).trans e) f0 f1 f3 f4 f5
    obtain ⟨o, e, c, d⟩ := id st'
    exact ⟨u, rfl, go_of (s := { s with heap := h' }) e c d (by decide) ⟨x, H, I1, ru, ⟨rfl, fun ys hy => by rw [I.list_inj hy hq]; exact hx⟩, st', fun b hb => (hf b hb).1⟩⟩
  done := by
    intro X hP hw hK hc i pins s σ H E I hf st hg
    subst hP hw hK
    obtain ⟨xs, hq, hx⟩ := hg
    obtain ⟨its, rv, p, hz⟩ := I.list hq
    obtain ⟨f0, f1, f2, f3, f4, f5⟩ := hf it (by simp)
    have hl := rv.length
    exact wpAny_pyNext_list_end (I.ok.hd hc) st p.isList (by simp; omega) fun h' eb => ⟨rfl, I.turned (t' := s.toks) (fun b o hb e => eb b o hb e) f0 f1 f3 f4 f5⟩
  self := fun _ _ _ _ _ st h => wpAny_pyIter_listiter st h
theorem turn_tuple {P : Program} {w : World} {K : PySem.W.Frag} {tg : Expr} (a it : Addr) : Turn P w K tg (Itt K a) [it] it (fun i h => h.IsTupleIter it a i) where
  mem := by simp
  obj := fun i h st b hb => by
    have e : b = it := by simpa using hb
    subst e
    obtain ⟨o, e, c, d⟩ := st
    exact ⟨o, e, fun v z => by rw [d] at z; cases z⟩
  keep := fun i h h' st k => st.at fun o e => k it (by simp) o e
  item := by
    intro X hP hw hK hc i pins s σ H E I hf st hg
    subst hP hw hK
    obtain ⟨xs, x, hq, hx⟩ := hg
    obtain ⟨its, rv, p, hz⟩ := I.tuple hq
    obtain ⟨u, hu, ru⟩ := rv.get hx
    obtain ⟨f0, f1, f2, f3, f4, f5⟩ := hf it (by simp)
    refine wpAny_pyNext_tuple_item st (show s.heap.IsTuple a its.toArray from p) (x := u) (by simpa using hu) fun h' st' sb => ?_
    have I1 : Inv X pins σ H { s with heap := h' } := I.turned (t' := s.toks) (fun b o hb e => (sb.2 b hb).trans e) f0 f1 f3 f4 f5
    obtain ⟨o, e, c, d⟩ := id st'
    exact ⟨u, rfl, go_of (s := { s with heap := h' }) e c d (by decide) ⟨x, H, I1, ru, ⟨rfl, fun ys hy => by rw [I.tuple_inj hy hq]; exact hx⟩, st', fun b hb => (hf b hb).1⟩⟩
  done := by
    intro X hP hw hK hc i pins s σ H E I hf st hg
    subst hP hw hK
    obtain ⟨xs, hq, hx⟩ := hg
    obtain ⟨its, rv, p, hz⟩ := I.tuple hq
    obtain ⟨f0, f1, f2, f3, f4, f5⟩ := hf it (by simp)
    have hl := rv.length
    exact wpAny_pyNext_tuple_end (I.ok.hd hc) st (show s.heap.IsTuple a its.toArray from p) (by simp; omega) fun h' eb => ⟨rfl, I.turned (t' := s.toks) (fun b o hb e => eb b o hb e) f0 f1 f3 f4 f5⟩
  self := fun _ _ _ _ _ st h => wpAny_pyIter_tupleiter st h
theorem turn_range {P : Program} {w : World} {K : PySem.W.Frag} {tg : Expr} (it : Addr) (lo : Int) (n : Nat) : Turn P w K tg (Itr lo n) [it] it (fun i h => IsRangeIter h it (lo + (i : Nat) * 1) ((n : Int) - (i : Nat)) 1) where
  mem := by simp
  obj := fun i h st b hb => by
    have e : b = it := by simpa using hb
    subst e
    exact ⟨_, st, fun v z => by
      have z' : Data.fields _ = Data.cell v := z
      cases z'⟩
  keep := fun i h h' st k => k it (by simp) _ st
  item := by
    intro X hP hw hK hc i pins s σ H E I hf st hg
    subst hP hw hK
    obtain ⟨f0, f1, f2, f3, f4, f5⟩ := hf it (by simp)
    have W := Walks.range (prog := X.prog) (w := X.w) (I.ok.hd hc) it lo 1 n
    refine W.item i s _ _ hg st fun v h' tk hv st' kk => ?_
    obtain ⟨t, rfl⟩ := hv
    have I1 : Inv X pins σ H { s with heap := h', toks := tk } := I.turned (fun b o hb e => kk b o (by simpa using hb) e) f0 f1 f3 f4 f5
    refine ⟨_, rfl, go_of (s := { s with heap := h', toks := tk }) (n := "range_iterator") st' rfl rfl (by decide) ⟨.int (lo + i), H, I1, ⟨t, ?_⟩, ⟨rfl, rfl⟩, st', fun b hb => (hf b hb).1⟩⟩
    rw [Int.mul_one]
  done := by
    intro X hP hw hK hc i pins s σ H E I hf st hg
    subst hP hw hK
    obtain ⟨f0, f1, f2, f3, f4, f5⟩ := hf it (by simp)
    exact wpAny_pyNext_range_end (I.ok.hd hc) st (by have : n ≤ i := hg; omega) fun h' eb => ⟨rfl, I.turned (t' := s.toks) (fun b o hb e => eb b o hb e) f0 f1 f3 f4 f5⟩
  self := fun _ _ _ _ _ st h => wpAny_pyIter_rangeiter st h
end L2

namespace L2
open PySem PySem.Spec PyProof.Rows
section
variable {X : Cx} {tg : Expr}
def iList (K : PySem.W.Frag) (tl : TE) : TI := fun σ H R => tl σ H fun x H1 => ∃ a, x = .ref a ∧ (∃ xs, SqL K H1 a xs) ∧ R (Itl K a) H1
def iTup (K : PySem.W.Frag) (tl : TE) : TI := fun σ H R => tl σ H fun x H1 => ∃ a, x = .ref a ∧ (∃ xs, SqT K H1 a xs) ∧ R (Itt K a) H1
theorem pi_list {l : Expr} {tl : TE} (hl : PE X l tl) : PI X tg l (iList X.K tl) := by
  intro pins s σ H R I h
  refine thn (hl pins s σ H _ I h) fun v s1 ⟨x, H1, I1, r1, q1⟩ => ?_
  obtain ⟨a, e, ⟨xs, hq⟩, q⟩ := q1
  subst e
  cases r1
  obtain ⟨its, rv, p, hz⟩ := I1.list hq
  refine wpAny_pyIter_list p.isList ?_
  refine ⟨s1.heap.objs.size, [s1.heap.objs.size], _, _, H1, rfl, I1.kept (t' := s1.toks) fun b o e => Heap.get?_push_of_some _ e, turn_list a _, ⟨_, Heap.get?_push_size _ rfl, rfl, rfl⟩, fun b hb => ?_, q⟩
  have e : b = s1.heap.objs.size := by simpa using hb
  subst e
  exact I1.fpOk (Nat.le_refl _) (I1.hok.fresh (Nat.le_refl _))
theorem pi_tup {l : Expr} {tl : TE} (hl : PE X l tl) : PI X tg l (iTup X.K tl) := by
  intro pins s σ H R I h
  refine thn (hl pins s σ H _ I h) fun v s1 ⟨x, H1, I1, r1, q1⟩ => ?_
  obtain ⟨a, e, ⟨xs, hq⟩, q⟩ := q1
  subst e
  cases r1
  obtain ⟨its, rv, p, hz⟩ := I1.tuple hq
  refine wpAny_pyIter_tuple (show s1.heap.IsTuple a its.toArray from p) ?_
  refine ⟨s1.heap.objs.size, [s1.heap.objs.size], _, _, H1, rfl, I1.kept (t' := s1.toks) fun b o e => Heap.get?_push_of_some _ e, turn_tuple a _, ⟨_, Heap.get?_push_size _ rfl, rfl, rfl⟩, fun b hb => ?_, q⟩
  have e : b = s1.heap.objs.size := by simpa using hb
  subst e
  exact I1.fpOk (Nat.le_refl _) (I1.hok.fresh (Nat.le_refl _))
theorem range_it {pins : List (Addr × Obj)} {σ : St} {H : Hp} {s : Shared} {R : It → Hp → Prop} {E : Value → Shared → Prop} {lo hi : Int} {t u v : Tok} {tk : Nat} (I : Inv X pins σ H s) (h1 : -(2 ^ 62) ≤ lo) (h2 : lo < 2 ^ 62) (h3 : -(2 ^ 62) ≤ hi) (h4 : hi < 2 ^ 62)
    (q : R (Itr lo (hi - lo).toNat) H) : wpAny (model X.prog X.w) X.A (pyIter (.ref s.heap.objs.size)) (PIE X pins σ tg R) E { s with heap := s.heap.push { cls := .type "range", data := .fields #[.int lo t, .int hi u, .int 1 v] }, toks := tk } := by
  refine wpAny_pyIter_range (IsRange.new ..) (small_one h1 h2 h3 h4) ?_
  have I1 : Inv X pins σ H { s with heap := s.heap.push { cls := .type "range", data := .fields #[.int lo t, .int hi u, .int 1 v] }, toks := tk } := I.kept fun b o e => Heap.get?_push_of_some _ e
  refine ⟨(s.heap.push { cls := .type "range", data := .fields #[.int lo t, .int hi u, .int 1 v] }).objs.size, [(s.heap.push { cls := .type "range", data := .fields #[.int lo t, .int hi u, .int 1 v] }).objs.size], _, _, H, rfl,
    I1.kept (t' := tk) fun b o e => Heap.get?_push_of_some _ e, turn_range _ lo (hi - lo).toNat, ?_, fun b hb => ?_, q⟩
  · have e1 : lo + ((0 : Nat) : Int) * 1 = lo := by simp
    have e2 : (((hi - lo).toNat : Nat) : Int) - ((0 : Nat) : Int) = Builtin.Range.rangeSize lo hi 1 := by rw [rangeSize_one]; split <;> omega
    show IsRangeIter _ _ (lo + ((0 : Nat) : Int) * 1) ((((hi - lo).toNat : Nat) : Int) - ((0 : Nat) : Int)) 1
    rw [e1, e2]
    exact Heap.get?_push_size _ rfl
  · have e : b = (s.heap.push { cls := .type "range", data := .fields #[.int lo t, .int hi u, .int 1 v] }).objs.size := by simpa using hb
    subst e
    exact I1.fpOk (Nat.le_refl _) (I1.hok.fresh (Nat.le_refl _))
def iRng1 (ta : TA) : TI := fun σ H R => ta σ H fun vs H1 => ∃ j : Int, vs = [.int j] ∧ -(2 ^ 62) ≤ j ∧ j < 2 ^ 62 ∧ R (Itr 0 j.toNat) H1
def iRng2 (ta : TA) : TI := fun σ H R => ta σ H fun vs H1 => ∃ i j : Int, vs = [.int i, .int j] ∧ (-(2 ^ 62) ≤ i ∧ i < 2 ^ 62 ∧ -(2 ^ 62) ≤ j ∧ j < 2 ^ 62) ∧ R (Itr i (j - i).toNat) H1
theorem pi_range1 {a : Expr} {ta : TA} {p pos : Pos} (hg : Gl X "range") (hm : X.mg "range" = none) (ha : PA X [a] ta) (hs : starEach [a] X.env = [(false, eval a X.env)] := by rfl) : PI X tg (.Call (.Name "range" p) [a] [] pos) (iRng1 ta) := by
  intro pins s σ H R I h
  refine Call_ (ld_blt I hg hm boot_range (PyProof.Rows.callWith_type1 (thn (ha pos pins s σ H _ I h) fun us s1 ⟨vs, H1, I1, r1, q1⟩ => ?_) hs rfl))
  obtain ⟨j, e, q1, q2, q⟩ := q1
  subst e
  cases r1 with
  | cons r rr =>
    cases rr
    obtain ⟨t, rfl⟩ := r
    exact call_range_1 (range_it I1 (by omega) (by omega) q1 q2 (by simpa using q))
def tFor (wi : TI) (g : TG) (tb : TS) : TS := fun D σ H => wi σ H fun J H1 => ∃ W : Nat → Nat → St → Hp → Prop, (∃ m, W 0 m σ H1) ∧ ∀ i m σ H, W i m σ H →
  (J.stop i H ∧ D.nx σ H) ∨ (J.go i H ∧ ∃ N : St → Hp → Prop, (∀ σ' H', N σ' H' → ∃ m', m' < m ∧ W (i + 1) m' σ' H') ∧ ∀ x H', J.yld i H x H' → g x σ H' fun σ2 H2 => tb { D with nx := N, ct := N, bk := D.nx } σ2 H2)
def pinsAt (fp : List Addr) (h : Heap) : List (Addr × Obj) := fp.filterMap fun b => (h.get? b).map fun o => (b, o)
theorem mem_pinsAt {fp : List Addr} {h : Heap} {b : Addr} {o : Obj} (hb : b ∈ fp) (e : h.get? b = some o) : (b, o) ∈ pinsAt fp h := List.mem_filterMap.mpr ⟨b, hb, by rw [e]; rfl⟩
theorem of_pinsAt {fp : List Addr} {h : Heap} {p : Addr × Obj} (hp : p ∈ pinsAt fp h) : p.1 ∈ fp ∧ h.get? p.1 = some p.2 := by
  obtain ⟨b, hb, e⟩ := List.mem_filterMap.mp hp
  cases q : h.get? b with
  | none => rw [q] at e; cases e
  | some o =>
    rw [q] at e
    have e' : (b, o) = p := Option.some.inj e
    subst e'
    exact ⟨hb, q⟩
theorem Inv.pinned {pins : List (Addr × Obj)} {σ : St} {H : Hp} {s : Shared} {fp : List Addr} (I : Inv X pins σ H s) (hf : ∀ b ∈ fp, FpOk X pins H b) (ho : ∀ b ∈ fp, ∃ o, s.heap.get? b = some o ∧ ∀ v, o.data ≠ .cell v) : Inv X (pins ++ pinsAt fp s.heap) σ H s :=
  I.pins_of fun p hp => (List.mem_append.mp hp).elim (fun z => I.pin p (List.mem_append_right _ z)) fun z => by
    obtain ⟨hb, e⟩ := of_pinsAt z
    obtain ⟨f0, f1, f2, _⟩ := hf p.1 hb
    obtain ⟨o, e', d⟩ := ho p.1 hb
    rw [e] at e'; cases e'
    exact ⟨e, f0, f1, f2, d⟩
theorem Inv.unpinned {pins pl : List (Addr × Obj)} {σ : St} {H : Hp} {s : Shared} (I : Inv X (pins ++ pl) σ H s) : Inv X pins σ H s := I.pins_of fun p hp => I.pin p (List.mem_append_right _ (List.mem_append_left _ hp))
theorem ps_for {iter : Expr} {body : List Stmt} {wi : TI} {g : TG} {tb : TS} {pos : Pos} (hp : PassesOwn (model X.prog X.w) X.A X.env X.xe) (hc : X.calm = true) (hi : PI X tg iter wi) (hg : PG X tg g) (hb : PSs X body tb)
    (hs : ∀ x, foldedSetIterable iter X.env x = pure x := by intro _; rfl) : PS X (.For tg iter body [] pos) (tFor wi g tb) := by
  intro pins s σ H D I h
  refine wpAny_For (thn (hi pins s σ H _ I h) fun v s1 h1 => thn h1 fun itv s2 h2 => ?_) hs
  obtain ⟨it, fp, tn, J, H2, e, I2, T, st2, f2, W, ⟨m0, w0⟩, turn⟩ := h2
  subst e
  -- what stays true of the iterator's objects through the loop
  have stat : ∀ {H' : Hp}, (∀ b ∈ fp, H' b = none) → ∀ b ∈ fp, FpOk X pins H' b := fun hn b hb => ⟨hn b hb, (f2 b hb).2⟩
  refine codeAny_forLoop_any (fun n s' => ∃ i σ' H', Inv X pins σ' H' s' ∧ tn i s'.heap ∧ (∀ b ∈ fp, H' b = none) ∧ W i n σ' H') ?_ m0 ⟨0, σ, H2, I2, st2, fun b hb => (f2 b hb).1, w0⟩
  rintro n s3 ⟨i, σ3, H3, I3, st3, fr3, w3⟩
  rcases turn i n σ3 H3 w3 with ⟨stop, qn⟩ | ⟨go, N, hN, step⟩
  · refine wpAny_passesOwn hp (thn (T.done X rfl rfl rfl hc i pins s3 σ3 H3 X.xe I3 (stat fr3) st3 stop) fun r s4 ⟨hr, I4⟩ => ?_)
    subst hr
    exact wpAny_execs_nil ⟨σ3, H3, I4, qn⟩
  · refine wpAny_passesOwn hp (thn (T.item X rfl rfl rfl hc i pins s3 σ3 H3 X.xe I3 (stat fr3) st3 go) fun r s4 ⟨u, hr, h4⟩ => ?_)
    subst hr
    refine wpAny_passesOwn hp (thn h4 fun _ s5 ⟨x, H5, I5, r5, y5, st5, fr5⟩ => ?_)
    have I5' := I5.pinned (stat fr5) (T.obj _ _ st5)
    refine wpAny_passesOwn hp (thn (hg _ s5 σ3 H5 x u _ I5' r5 (step x H5 y5)) fun _ s6 ⟨σ6, H6, I6, q6⟩ => ?_)
    refine wpAny_passesOwn hp (thn (hb _ s6 σ6 H6 _ I6 q6) fun f s7 q7 => ?_)
    have again : ∀ {σ7 : St} {H7 : Hp}, Inv X (pins ++ pinsAt fp s5.heap) σ7 H7 s7 → N σ7 H7 → ∃ m, m < n ∧ ∃ i σ' H', Inv X pins σ' H' s7 ∧ tn i s7.heap ∧ (∀ b ∈ fp, H' b = none) ∧ W i m σ' H' := fun {σ7 H7} I7 n7 => by
      obtain ⟨m', hm, w7⟩ := hN σ7 H7 n7
      refine ⟨m', hm, i + 1, σ7, H7, I7.unpinned, T.keep _ _ _ st5 fun b hb o e => (I7.pin (b, o) (List.mem_append_right _ (List.mem_append_right _ (mem_pinsAt hb e)))).1, fun b hb => ?_, w7⟩
      obtain ⟨o, e, d⟩ := T.obj _ _ st5 b hb
      exact (I7.pin (b, o) (List.mem_append_right _ (List.mem_append_right _ (mem_pinsAt hb e)))).2.1
    cases f with
    | next => obtain ⟨σ7, H7, I7, n7⟩ := q7; exact again I7 n7
    | cont => obtain ⟨σ7, H7, I7, n7⟩ := q7; exact again I7 n7
    | brk => obtain ⟨σ7, H7, I7, q7⟩ := q7; exact ⟨σ7, H7, I7.unpinned, q7⟩
    | ret v => obtain ⟨x7, σ7, H7, I7, r7, q7⟩ := q7; exact ⟨x7, σ7, H7, I7.unpinned, r7, q7⟩
end

theorem for_list {K : PySem.W.Frag} {a : Addr} {xs : List V} {g : TG} {tb : TS} {D : Ends} {σ : St} {H : Hp} (Pv : Nat → St → Hp → Prop) (h0 : Pv 0 σ H) (hl : ∀ i σ H, i ≤ xs.length → Pv i σ H → SqL K H a xs)
    (hs : ∀ i x σ H, xs[i]? = some x → Pv i σ H → g x σ H fun σ2 H2 => tb { D with nx := Pv (i + 1), ct := Pv (i + 1), bk := D.nx } σ2 H2) (hd : ∀ σ H, Pv xs.length σ H → D.nx σ H) :
    ∃ W : Nat → Nat → St → Hp → Prop, (∃ m, W 0 m σ H) ∧ ∀ i m σ H, W i m σ H →
      ((Itl K a).stop i H ∧ D.nx σ H) ∨ ((Itl K a).go i H ∧ ∃ N : St → Hp → Prop, (∀ σ' H', N σ' H' → ∃ m', m' < m ∧ W (i + 1) m' σ' H') ∧ ∀ x H', (Itl K a).yld i H x H' → g x σ H' fun σ2 H2 => tb { D with nx := N, ct := N, bk := D.nx } σ2 H2) := by
  refine ⟨fun i m σ H => m = xs.length - i ∧ i ≤ xs.length ∧ Pv i σ H, ⟨xs.length, by simp, Nat.zero_le _, h0⟩, ?_⟩
  rintro i m σ H ⟨rfl, hi, p⟩
  have q := hl i σ H hi p
  by_cases hlt : i < xs.length
  · refine .inr ⟨⟨xs, xs[i], q, by simp [hlt]⟩, Pv (i + 1), fun σ' H' p' => ⟨xs.length - (i + 1), by omega, rfl, hlt, p'⟩, fun x H' y => ?_⟩
    obtain ⟨e, y⟩ := y
    subst e
    exact hs i x σ _ (y xs q) p
  · have e : i = xs.length := by omega
    subst e
    exact .inl ⟨⟨xs, q, Nat.le_refl _⟩, hd σ H p⟩
theorem for_range {lo : Int} {n : Nat} {g : TG} {tb : TS} {D : Ends} {σ : St} {H : Hp} (Pv : Nat → St → Hp → Prop) (h0 : Pv 0 σ H)
    (hs : ∀ i σ H, i < n → Pv i σ H → g (.int (lo + i)) σ H fun σ2 H2 => tb { D with nx := Pv (i + 1), ct := Pv (i + 1), bk := D.nx } σ2 H2) (hd : ∀ σ H, Pv n σ H → D.nx σ H) :
    ∃ W : Nat → Nat → St → Hp → Prop, (∃ m, W 0 m σ H) ∧ ∀ i m σ H, W i m σ H →
      ((Itr lo n).stop i H ∧ D.nx σ H) ∨ ((Itr lo n).go i H ∧ ∃ N : St → Hp → Prop, (∀ σ' H', N σ' H' → ∃ m', m' < m ∧ W (i + 1) m' σ' H') ∧ ∀ x H', (Itr lo n).yld i H x H' → g x σ H' fun σ2 H2 => tb { D with nx := N, ct := N, bk := D.nx } σ2 H2) := by
  refine ⟨fun i m σ H => m = n - i ∧ i ≤ n ∧ Pv i σ H, ⟨n, by simp, Nat.zero_le _, h0⟩, ?_⟩
  rintro i m σ H ⟨rfl, hi, p⟩
  by_cases hlt : i < n
  · refine .inr ⟨hlt, Pv (i + 1), fun σ' H' p' => ⟨n - (i + 1), by omega, rfl, hlt, p'⟩, fun x H' y => ?_⟩
    obtain ⟨e, y⟩ := y
    subst e y
    exact hs i σ _ hlt p
  · have e : i = n := by omega
    subst e
    exact .inl ⟨Nat.le_refl _, hd σ H p⟩
end L2

namespace L2
open PySem PySem.Spec PyProof.Rows

abbrev R2 := V → V → Hp → VK → Prop
def OpR (X : Cx) (f : Value → Value → Sem Value) (r : R2) : Prop :=
  ∀ (pins : List (Addr × Obj)) (s : Shared) (σ : St) (H : Hp) (x y : V) (v u : Value) (Q : VK), Inv X pins σ H s → RelV x v → RelV y u → r x y H Q →
    wpAny (model X.prog X.w) X.A (f v u) (EP X pins σ Q) X.xe s
def UnR (X : Cx) (f : Value → Sem Value) (r : V → Hp → VK → Prop) : Prop :=
  ∀ (pins : List (Addr × Obj)) (s : Shared) (σ : St) (H : Hp) (x : V) (v : Value) (Q : VK), Inv X pins σ H s → RelV x v → r x H Q →
    wpAny (model X.prog X.w) X.A (f v) (EP X pins σ Q) X.xe s
def CallR (X : Cx) (f : Value) (r : List V → Hp → VK → Prop) : Prop :=
  ∀ (pins : List (Addr × Obj)) (s : Shared) (σ : St) (H : Hp) (xs : List V) (us : List Value) (Q : VK), Inv X pins σ H s → Vals xs us → r xs H Q →
    wpAny (model X.prog X.w) X.A (call f us) (EP X pins σ Q) X.xe s
def TruR (X : Cx) (r : V → Hp → (Bool → Hp → Prop) → Prop) : Prop :=
  ∀ (pins : List (Addr × Obj)) (s : Shared) (σ : St) (H : Hp) (x : V) (v : Value) (Q : Bool → Hp → Prop), Inv X pins σ H s → RelV x v → r x H Q →
    wpAny (model X.prog X.w) X.A (truthy v) (TP X pins σ Q) X.xe s

def tOp (r : R2) (ta tb : TE) : TE := fun σ H Q => ta σ H fun x H1 => tb σ H1 fun y H2 => r x y H2 Q
def tUn (r : V → Hp → VK → Prop) (ta : TE) : TE := fun σ H Q => ta σ H fun x H1 => r x H1 Q
def rI (C : Int → Int → Prop) (g : Int → Int → V) : R2 := fun x y H Q => ∃ i j, x = .int i ∧ y = .int j ∧ C i j ∧ Q (g i j) H
def rI0 (g : Int → Int → V) : R2 := fun x y H Q => ∃ i j, x = .int i ∧ y = .int j ∧ Q (g i j) H
def rU (g : Int → V) : V → Hp → VK → Prop := fun x H Q => ∃ i, x = .int i ∧ Q (g i) H

section
variable {X : Cx} {a b c : Expr} {ta tb tc : TE} {pos : Pos}

theorem binT (ha : PE X a ta) (hb : PE X b tb) {pins : List (Addr × Obj)} {s : Shared} {σ : St} {H : Hp} {R : V → V → Hp → Prop} (I : Inv X pins σ H s)
    (h : ta σ H fun x H1 => tb σ H1 fun y H2 => R x y H2) {Q : Value → Shared → Prop} {f : Value → Value → Sem Value}
    (hf : ∀ v u s2 x y H2, Inv X pins σ H2 s2 → RelV x v → RelV y u → R x y H2 → wpAny (model X.prog X.w) X.A (f v u) Q X.xe s2) :
    wpAny (model X.prog X.w) X.A (eval a X.env) (fun v s₁ => wpAny (model X.prog X.w) X.A (eval b X.env) (fun u s₂ => wpAny (model X.prog X.w) X.A (f v u) Q X.xe s₂) X.xe s₁) X.xe s := by
  refine thn (ha pins s σ H _ I h) fun v s1 ⟨x, H1, I1, r1, q1⟩ => ?_
  refine thn (hb pins s1 σ H1 _ I1 q1) fun u s2 ⟨y, H2, I2, r2, q2⟩ => ?_
  exact hf v u s2 x y H2 I2 r1 r2 q2

theorem pe_op {op : Operator} {r : R2} (ho : OpR X (binaryOp op) r) (ha : PE X a ta) (hb : PE X b tb) : PE X (.BinOp a op b pos) (tOp r ta tb) := by
  intro pins s σ H Q I h
  exact wpAny_BinOp (binT ha hb I h fun v u s2 x y H2 I2 rx ry q => ho pins s2 σ H2 x y v u Q I2 rx ry q)
theorem pe_un {op : UnaryOp} {r : V → Hp → VK → Prop} (ho : UnR X (unaryOp op) r) (ha : PE X a ta) : PE X (.UnaryOp op a pos) (tUn r ta) := by
  intro pins s σ H Q I h
  exact UnaryOp_ (thn (ha pins s σ H _ I h) fun v s1 ⟨x, H1, I1, r1, q1⟩ => ho pins s1 σ H1 x v Q I1 r1 q1)
theorem opI {f : Value → Value → Sem Value} {C : Int → Int → Prop} {g : Int → Int → Int}
    (rule : ∀ (i j : Int) (t u : Tok) (s : Shared) (Q : Value → Shared → Prop) (E : Value → Shared → Prop), C i j → Q (.int (g i j) s.toks) { s with toks := s.toks + 1 } → wpAny (model X.prog X.w) X.A (f (.int i t) (.int j u)) Q E s) :
    OpR X f (rI C fun i j => .int (g i j)) := by
  intro pins s σ H x y v u Q I rx ry h
  obtain ⟨i, j, rfl, rfl, hc, q⟩ := h
  obtain ⟨t, rfl⟩ := rx
  obtain ⟨t', rfl⟩ := ry
  exact rule i j t t' s _ _ hc ⟨.int (g i j), H, I.tok _, ⟨_, rfl⟩, q⟩
theorem opI0 {f : Value → Value → Sem Value} {g : Int → Int → Int}
    (rule : ∀ (i j : Int) (t u : Tok) (s : Shared) (Q : Value → Shared → Prop) (E : Value → Shared → Prop), Q (.int (g i j) s.toks) { s with toks := s.toks + 1 } → wpAny (model X.prog X.w) X.A (f (.int i t) (.int j u)) Q E s) :
    OpR X f (rI0 fun i j => .int (g i j)) := by
  intro pins s σ H x y v u Q I rx ry h
  obtain ⟨i, j, rfl, rfl, q⟩ := h
  obtain ⟨t, rfl⟩ := rx
  obtain ⟨t', rfl⟩ := ry
  exact rule i j t t' s _ _ ⟨.int (g i j), H, I.tok _, ⟨_, rfl⟩, q⟩
theorem opB0 {f : Value → Value → Sem Value} {g : Int → Int → Bool}
    (rule : ∀ (i j : Int) (t u : Tok) (s : Shared) (Q : Value → Shared → Prop) (E : Value → Shared → Prop), Q (.bool (g i j)) s → wpAny (model X.prog X.w) X.A (f (.int i t) (.int j u)) Q E s) :
    OpR X f (rI0 fun i j => .bl (g i j)) := by
  intro pins s σ H x y v u Q I rx ry h
  obtain ⟨i, j, rfl, rfl, q⟩ := h
  obtain ⟨t, rfl⟩ := rx
  obtain ⟨t', rfl⟩ := ry
  exact rule i j t t' s _ _ ⟨.bl (g i j), H, I, rfl, q⟩

def CDiv (i j : Int) : Prop := 0 < j ∧ j < 1073741824
def CDivN (i j : Int) : Prop := j ≠ 0 ∧ j.natAbs < 1073741824
def CPow (i j : Int) : Prop := 0 ≤ j ∧ j ≤ 1000000 ∧ i.natAbs < 2 ^ 64
def CMul (i j : Int) : Prop := (-(2 ^ 64) < i ∧ i < 2 ^ 64) ∨ (-(2 ^ 64) < j ∧ j < 2 ^ 64)
theorem op_add : OpR X (binaryOp .Add) (rI0 fun i j => .int (i + j)) := opI0 fun _ _ _ _ _ _ _ q => add_int q
theorem op_sub : OpR X (binaryOp .Sub) (rI0 fun i j => .int (i - j)) := opI0 fun _ _ _ _ _ _ _ q => sub_int q
theorem op_mod : OpR X (binaryOp .Mod) (rI (fun _ j => 0 < j) fun i j => .int (i % j)) := opI fun i j _ _ _ _ _ hc q => by
  have h1 : (0 : Int) < j := hc
  exact mod_int' (by omega) (by rw [Int.fmod_eq_emod_of_nonneg i (by omega)]; exact q)
theorem op_pow : OpR X (binaryOp .Pow) (rI CPow fun i j => .int (i ^ j.toNat)) := opI fun _ _ _ _ _ _ _ hc q => pow_int_small hc.1 hc.2.1 hc.2.2 q
theorem unI {f : Value → Sem Value} {g : Int → Int}
    (rule : ∀ (i : Int) (t : Tok) (s : Shared) (Q : Value → Shared → Prop) (E : Value → Shared → Prop), Q (.int (g i) s.toks) { s with toks := s.toks + 1 } → wpAny (model X.prog X.w) X.A (f (.int i t)) Q E s) :
    UnR X f (rU fun i => .int (g i)) := by
  intro pins s σ H x v Q I rx h
  obtain ⟨i, rfl, q⟩ := h
  obtain ⟨t, rfl⟩ := rx
  exact rule i t s _ _ ⟨.int (g i), H, I.tok _, ⟨_, rfl⟩, q⟩
theorem un_neg : UnR X (unaryOp .USub) (rU fun i => .int (-i)) := unI fun _ _ _ _ _ q => neg_int q
end

def scal : V → V → Bool
  | .non, .non => true | .non, .int _ => true | .int _, .non => true | .non, .bl _ => true | .bl _, .non => true | .non, .str _ => true | .str _, .non => true
  | .int _, .int _ => true | .bl _, .bl _ => true | .str _, .str _ => true | .byt _, .byt _ => true
  | .int _, .str _ => true | .str _, .int _ => true | .bl _, .str _ => true | .str _, .bl _ => true
  | _, _ => false
def rEq : R2 := fun x y H Q => scal x y = true ∧ Q (.bl (decide (x = y))) H
def rNe : R2 := fun x y H Q => scal x y = true ∧ Q (.bl (!decide (x = y))) H

theorem dec_int {i j : Int} : decide (V.int i = V.int j) = (i == j) := by
  rw [Bool.eq_iff_iff]
  simp
theorem dec_bl {i j : Bool} : decide (V.bl i = V.bl j) = (i == j) := by
  rw [Bool.eq_iff_iff]
  simp
theorem dec_str {i j : Str} : decide (V.str i = V.str j) = (i == j) := by
  rw [Bool.eq_iff_iff]
  simp
theorem dec_byt {i j : Array UInt8} : decide (V.byt i = V.byt j) = (i.toList == j.toList) := by
  rw [Bool.eq_iff_iff]
  cases i
  cases j
  simp

section
variable {X : Cx} {a b c : Expr} {ta tb tc : TE} {pos : Pos}
theorem fin_bl {pins : List (Addr × Obj)} {σ : St} {H : Hp} {s : Shared} {Q : VK} {k k' : Bool} (I : Inv X pins σ H s) (q : Q (.bl k) H) (e : k = k') : EP X pins σ Q (.bool k') s := by
  subst e
  exact ⟨.bl k, H, I, rfl, q⟩
theorem op_eq : OpR X (compareOp .Eq) rEq := by
  intro pins s σ H x y v u Q I rx ry h
  obtain ⟨hs, q⟩ := h
  cases x with
  | non =>
    cases rx
    cases y with
    | non => cases ry; exact PySem.EqNone.eq_none_none (fin_bl I q (by simp))
    | bl j => cases ry; exact PySem.EqNone.eq_none_bool (fin_bl I q (by simp))
    | int j => obtain ⟨t', rfl⟩ := ry; exact PySem.EqNone.eq_none_int (fin_bl I q (by simp))
    | str j => obtain ⟨t', rfl⟩ := ry; exact PySem.EqNone.eq_none_str (fin_bl I q (by simp))
    | _ => exact absurd (show false = true from hs) Bool.false_ne_true
  | bl i =>
    cases rx
    cases y with
    | non => cases ry; exact PySem.EqNone.eq_bool_none (fin_bl I q (by simp))
    | bl j => cases ry; exact eq_bool (fin_bl I q dec_bl)
    | str j => obtain ⟨t', rfl⟩ := ry; exact PySem.EqMixed.eq_bool_str (fin_bl I q (by simp))
    | _ => exact absurd (show false = true from hs) Bool.false_ne_true
  | int i =>
    obtain ⟨t, rfl⟩ := rx
    cases y with
    | non => cases ry; exact PySem.EqNone.eq_int_none (fin_bl I q (by simp))
    | int j => obtain ⟨t', rfl⟩ := ry; exact eq_int (fin_bl I q dec_int)
    | str j => obtain ⟨t', rfl⟩ := ry; exact PySem.EqMixed.eq_int_str (fin_bl I q (by simp))
    | _ => exact absurd (show false = true from hs) Bool.false_ne_true
  | str i =>
    obtain ⟨t, rfl⟩ := rx
    cases y with
    | non => cases ry; exact PySem.EqNone.eq_str_none (fin_bl I q (by simp))
    | bl j => cases ry; exact PySem.EqMixed.eq_str_bool (fin_bl I q (by simp))
    | int j => obtain ⟨t', rfl⟩ := ry; exact PySem.EqMixed.eq_str_int (fin_bl I q (by simp))
    | str j => obtain ⟨t', rfl⟩ := ry; exact eq_str (fin_bl I q dec_str)
    | _ => exact absurd (show false = true from hs) Bool.false_ne_true
  | byt i =>
    obtain ⟨t, rfl⟩ := rx
    cases y with
    | byt j => obtain ⟨t', rfl⟩ := ry; exact PySem.W.eq_bytes (fin_bl I q dec_byt)
    | _ => exact absurd (show false = true from hs) Bool.false_ne_true
  | _ => cases y <;> exact absurd (show false = true from hs) Bool.false_ne_true
theorem op_ne : OpR X (compareOp .NotEq) rNe := by
  intro pins s σ H x y v u Q I rx ry h
  obtain ⟨hs, q⟩ := h
  cases x with
  | non =>
    cases rx
    cases y with
    | non => cases ry; exact PySem.EqNone.ne_none_none (fin_bl I q (by simp))
    | bl j => cases ry; exact PySem.EqNone.ne_none_bool (fin_bl I q (by simp))
    | int j => obtain ⟨t', rfl⟩ := ry; exact PySem.EqNone.ne_none_int (fin_bl I q (by simp))
    | str j => obtain ⟨t', rfl⟩ := ry; exact PySem.EqNone.ne_none_str (fin_bl I q (by simp))
    | _ => exact absurd (show false = true from hs) Bool.false_ne_true
  | bl i =>
    cases rx
    cases y with
    | non => cases ry; exact PySem.EqNone.ne_bool_none (fin_bl I q (by simp))
    | bl j => cases ry; exact ne_bool (fin_bl I q (congrArg not dec_bl))
    | str j => obtain ⟨t', rfl⟩ := ry; exact PySem.EqMixed.ne_bool_str (fin_bl I q (by simp))
    | _ => exact absurd (show false = true from hs) Bool.false_ne_true
  | int i =>
    obtain ⟨t, rfl⟩ := rx
    cases y with
    | non => cases ry; exact PySem.EqNone.ne_int_none (fin_bl I q (by simp))
    | int j => obtain ⟨t', rfl⟩ := ry; exact ne_int (fin_bl I q (congrArg not dec_int))
    | str j => obtain ⟨t', rfl⟩ := ry; exact PySem.EqMixed.ne_int_str (fin_bl I q (by simp))
    | _ => exact absurd (show false = true from hs) Bool.false_ne_true
  | str i =>
    obtain ⟨t, rfl⟩ := rx
    cases y with
    | non => cases ry; exact PySem.EqNone.ne_str_none (fin_bl I q (by simp))
    | bl j => cases ry; exact PySem.EqMixed.ne_str_bool (fin_bl I q (by simp))
    | int j => obtain ⟨t', rfl⟩ := ry; exact PySem.EqMixed.ne_str_int (fin_bl I q (by simp))
    | str j => obtain ⟨t', rfl⟩ := ry; exact ne_str (fin_bl I q (congrArg not dec_str))
    | _ => exact absurd (show false = true from hs) Bool.false_ne_true
  | byt i =>
    obtain ⟨t, rfl⟩ := rx
    cases y with
    | byt j => obtain ⟨t', rfl⟩ := ry; exact PySem.W.ne_bytes (fin_bl I q (congrArg not dec_byt))
    | _ => exact absurd (show false = true from hs) Bool.false_ne_true
  | _ => cases y <;> exact absurd (show false = true from hs) Bool.false_ne_true

theorem op_lt : OpR X (compareOp .Lt) (rI0 fun i j => .bl (decide (i < j))) := opB0 fun _ _ _ _ _ _ _ q => lt_int q
theorem op_le : OpR X (compareOp .LtE) (rI0 fun i j => .bl (decide (i ≤ j))) := opB0 fun _ _ _ _ _ _ _ q => le_int q
theorem op_gt : OpR X (compareOp .Gt) (rI0 fun i j => .bl (decide (j < i))) := opB0 fun _ _ _ _ _ _ _ q => gt_int q
theorem op_ge : OpR X (compareOp .GtE) (rI0 fun i j => .bl (decide (j ≤ i))) := opB0 fun _ _ _ _ _ _ _ q => ge_int q
def isObj : HO → Bool
  | .lst _ => true
  | .ins _ _ _ => true
  | _ => false
theorem nomark (b : Expr) {op : CmpOp} (h : op ≠ .In := by decide) (h2 : op ≠ .NotIn := by decide) : behindInMarks op b = false := by
  have e1 : (op == CmpOp.In) = false := by cases op <;> first | rfl | exact absurd rfl h
  have e2 : (op == CmpOp.NotIn) = false := by cases op <;> first | rfl | exact absurd rfl h2
  cases b <;> simp [behindInMarks, e1, e2]
theorem pe_cmpR {op : CmpOp} {r : R2} (ho : OpR X (compareOp op) r) (ha : PE X a ta) (hb : PE X b tb) (hm : behindInMarks op b = false) : PE X (.Compare a [op] [b] pos) (tOp r ta tb) := by
  intro pins s σ H Q I h
  exact wpAny_Compare1 (binT ha hb I h fun v u s2 x y H2 I2 rx ry q => ho pins s2 σ H2 x y v u Q I2 rx ry q) hm
def tTest (t : TE) : TT := fun σ H Q => t σ H fun x H' => ∃ k, x = .bl k ∧ Q k H'
theorem pt_cmpR {op : CmpOp} {r : R2} (ho : OpR X (compareOp op) r) (ha : PE X a ta) (hb : PE X b tb) (hm : behindInMarks op b = false) : PT X (.Compare a [op] [b] pos) (tTest (tOp r ta tb)) := by
  intro pins s σ H Q I h
  refine wpAny_isTrue_Compare1 (thn (ha pins s σ H _ I h) fun v s1 ⟨x, H1, I1, r1, q1⟩ => thn (hb pins s1 σ H1 _ I1 q1) fun u s2 ⟨y, H2, I2, r2, q2⟩ =>
    thn (ho pins s2 σ H2 x y v u _ I2 r1 r2 q2) fun c s3 ⟨z, H3, I3, r3, k, e, q3⟩ => ?_) hm
  subst e
  cases r3
  exact wpAny_truthy_bool ⟨H3, I3, q3⟩
def tChain (r r' : R2) (ta tb tc : TE) : TE := fun σ H Q => ta σ H fun x H1 => tb σ H1 fun y H2 => r x y H2 fun z H3 => ∃ k, z = .bl k ∧
  (if k = true then tc σ H3 fun w' H4 => r' y w' H4 Q else Q (.bl false) H3)
def TruV (K : PySem.W.Frag) (x : V) (H : Hp) (k : Bool) : Prop :=
  match x with
  | .non => k = false
  | .bl b => k = b
  | .int i => k = (i != 0)
  | .str y => y.length ≤ sizeLine ∧ k = ((y.length : Int) != 0)
  | .byt y => y.size ≤ sizeLine ∧ k = ((y.size : Int) != 0)
  | .ref p => (∃ xs, SqL K H p xs ∧ k = !xs.isEmpty) ∨ (∃ xs, SqT K H p xs ∧ k = !xs.isEmpty) ∨ ∃ kvs, H p = some (.dK kvs) ∧ k = !kvs.isEmpty
  | _ => False
theorem line63 : (sizeLine : Nat) < 2 ^ 63 := by rw [sizeLine_eq]; decide
theorem op_add_str : OpR X (binaryOp .Add) (fun x y H Q => ∃ i j, x = .str i ∧ y = .str j ∧ i.length + j.length ≤ sizeLine ∧ Q (.str (i ++ j)) H) := by
  intro pins s σ H x y v u Q I rx ry h
  obtain ⟨i, j, rfl, rfl, hz, q⟩ := h
  obtain ⟨t, rfl⟩ := rx
  obtain ⟨t', rfl⟩ := ry
  exact add_str (fun t' tk => ⟨.str (i ++ j), H, I.tok _, ⟨_, rfl⟩, q⟩) hz
def PlainIxT (b : Expr) : Prop := ∀ o i, subscripted b false o i = operate [o, i] (getItem o i)
theorem vals1 {x : V} {us : List Value} (r : Vals [x] us) : ∃ u, us = [u] ∧ RelV x u := by
  cases r with
  | cons r1 r2 => cases r2; exact ⟨_, rfl, r1⟩
theorem vals2 {x y : V} {us : List Value} (r : Vals [x, y] us) : ∃ u w', us = [u, w'] ∧ RelV x u ∧ RelV y w' := by
  cases r with
  | cons r1 r2 =>
    cases r2 with
    | cons r3 r4 => cases r4; exact ⟨_, _, rfl, r1, r3⟩
theorem call_max2 (hc : X.calm = true) : CallR X (.builtin "max") (fun xs H Q => ∃ i j, xs = [.int i, .int j] ∧ Q (.int (if j > i then j else i)) H) := by
  intro pins s σ H xs us Q I r h
  obtain ⟨i, j, rfl, q⟩ := h
  obtain ⟨u, w', rfl, ⟨t, rfl⟩, ⟨t', rfl⟩⟩ := vals2 r
  refine max_two_ints (I.ok.hd hc) fun h' tk k => ⟨_, H, I.kept k, ?_, q⟩
  by_cases hj : j > i
  · rw [if_pos hj, if_pos hj]; exact ⟨_, rfl⟩
  · rw [if_neg hj, if_neg hj]; exact ⟨_, rfl⟩
theorem call_min2 (hc : X.calm = true) : CallR X (.builtin "min") (fun xs H Q => ∃ i j, xs = [.int i, .int j] ∧ Q (.int (if j < i then j else i)) H) := by
  intro pins s σ H xs us Q I r h
  obtain ⟨i, j, rfl, q⟩ := h
  obtain ⟨u, w', rfl, ⟨t, rfl⟩, ⟨t', rfl⟩⟩ := vals2 r
  refine min_two_ints (I.ok.hd hc) fun h' tk k => ⟨_, H, I.kept k, ?_, q⟩
  by_cases hj : j < i
  · rw [if_pos hj, if_pos hj]; exact ⟨_, rfl⟩
  · rw [if_neg hj, if_neg hj]; exact ⟨_, rfl⟩
theorem call_int1 : CallR X (.type "int") (fun xs H Q => (∃ i, xs = [.int i] ∧ Q (.int i) H) ∨ ∃ k, xs = [.bl k] ∧ Q (.int (if k then 1 else 0)) H) := by
  intro pins s σ H xs us Q I r h
  rcases h with ⟨i, rfl, q⟩ | ⟨k, rfl, q⟩
  · obtain ⟨u, rfl, t, rfl⟩ := vals1 r
    exact call_int_int ⟨.int i, H, I, ⟨_, rfl⟩, q⟩
  · obtain ⟨u, rfl, r1⟩ := vals1 r
    cases r1
    exact call_int_bool ⟨.int (if k then 1 else 0), H, I.tok _, ⟨_, rfl⟩, q⟩
def LenV (K : PySem.W.Frag) (x : V) (H : Hp) (n : Nat) : Prop :=
  match x with
  | .str y => y.length ≤ sizeLine ∧ n = y.length
  | .byt y => y.size ≤ sizeLine ∧ n = y.size
  | .ref p => (∃ xs, SqL K H p xs ∧ n = xs.length) ∨ ∃ xs, SqT K H p xs ∧ n = xs.length
  | _ => False
end
end L2

namespace L2
open PySem PySem.Spec PyProof.Rows

structure ObjM (h : Heap) (x dx C : Addr) (mA : Str → Option Value) : Prop where
  obj : h.get? x = some (PySem.W.instObj C dx)
  ns : h.Ns1 dx mA
  ne : dx ≠ x

theorem lookIn_ns {h : Heap} {dx : Addr} {mA : Str → Option Value} (n : h.Ns1 dx mA) : ∃ od, h.get? dx = some od ∧ ∀ name, PySem.W.lookIn name od = some (mA name) := by
  obtain ⟨o, es, ep, ho, hd, hk, _, hm⟩ := n
  refine ⟨o, ho, fun name => ?_⟩
  have e := hm name
  unfold nsFind findBy at e
  rw [← Array.find?_toList] at e
  unfold PySem.W.lookIn
  rw [hd]
  dsimp only
  split
  · rename_i y q
    rw [q] at e
    exact congrArg some e
  · rename_i q
    rw [q] at e
    have a : es.toList.any (·.refKey) = false := by
      rw [List.any_eq_false]
      intro y hy
      obtain ⟨z, t, hkey⟩ := hk y (Array.mem_toList_iff.mp hy)
      simp [DictEntry.refKey, hkey]
    have a' : ¬ es.toList.any (·.refKey) = true := by rw [a]; exact Bool.false_ne_true
    rw [if_neg a']
    exact congrArg some e

theorem ObjM.look {h : Heap} {x dx C : Addr} {mA : Str → Option Value} (I : ObjM h x dx C mA) : ∃ od, PySem.W.InstAt h x (PySem.W.instObj C dx) C (some od) ∧ ∀ name, PySem.W.lookIn name od = some (mA name) :=
  let ⟨od, ho, hl⟩ := lookIn_ns I.ns
  ⟨od, ⟨I.obj, rfl, rfl, ho⟩, hl⟩

section
variable {prog : Program} {w : World} {A : Around} {E : Value → Shared → Prop} {s : Shared} {K : PySem.W.Frag} {x dx C f : Addr} {mA : Str → Option Value} {name : Str} {v : Value}

end

def putF (f : Str) (v : V) : List (Str × V) → List (Str × V)
  | [] => [(f, v)]
  | (g, x) :: r => if g = f then (g, v) :: r else (g, x) :: putF f v r
section
variable {P : Program} {w : World} {H H' : Hp} {h h' : Heap} {a C dx : Addr} {fs fs' : List (Str × V)}
theorem ins_get (hok : HOk P w H h) (e : H a = some (.ins C dx fs)) : ∃ mA, ObjM h a dx C mA ∧ (∀ f, RelO (fs.lookup f) (mA f)) ∧ PySem.Within mA (fs.map (·.1)) ∧ fs.length ≤ 1000 ∧ H dx = some (.own a) := by
  obtain ⟨d, z, ne, ob, mA, n, r, q⟩ := (show ObjOk P w H h a (.ins C dx fs) from hok a _ e)
  exact ⟨mA, ⟨ob, n, ne⟩, r, q, z, d⟩
end

structure Cls (K : PySem.W.Frag) (C : Addr) : Prop where
  pg : PySem.W.plainGet K C Str.empty = true
  hd : PySem.W.hasDictIn K C = true
  po : PySem.W.plainOver K C = true
  sa : PySem.W.findIn K (.ref C) "__setattr__" = some (some (.builtin "object.__setattr__"))
theorem Cls.get {K : PySem.W.Frag} {C : Addr} (c : Cls K C) (f : Str) : PySem.W.plainGet K C f = true := c.pg
def NoAttr (K : PySem.W.Frag) (C : Addr) (f : Str) : Prop := PySem.W.findIn K (.ref C) f = some none
structure Con (K : PySem.W.Frag) (C : Addr) (f : Str) (v : V) (u : Value) : Prop where
  at_ : PySem.W.findIn K (.ref C) f = some (some u)
  rel : RelV v u
  get : PySem.W.specialIn K u "__get__" = some none
  cp : PySem.W.copiedNames.contains f = false
structure Meth (K : PySem.W.Frag) (C : Addr) (m : Str) (f : Addr) : Prop where
  at_ : PySem.W.findIn K (.ref C) m = some (some (.ref f))
  fn : PySem.W.isFn K (.ref f) = true
  kp : PySem.W.keepIn K (.ref f) = true

section
variable {X : Cx} {pins : List (Addr × Obj)} {σ : St} {H : Hp} {s : Shared} {a C dx : Addr} {fs : List (Str × V)} {f : Str} {v : V} {A : Around} {E : Value → Shared → Prop}

end

def tFld (K : PySem.W.Frag) (ta : TE) (f : Str) : TE := fun σ H Q => ta σ H fun x H1 => ∃ a C dx fs v, x = .ref a ∧ H1 a = some (.ins C dx fs) ∧ Cls K C ∧ NoAttr K C f ∧ fs.lookup f = some v ∧ Q v H1
def tCon (K : PySem.W.Frag) (ta : TE) (f : Str) : TE := fun σ H Q => ta σ H fun x H1 => ∃ a C dx fs v u, x = .ref a ∧ H1 a = some (.ins C dx fs) ∧ Cls K C ∧ Con K C f v u ∧ fs.lookup f = none ∧ Q v H1
def sFld (K : PySem.W.Frag) (ta tv : TE) (f : Str) : TS := fun D σ H => tv σ H fun y H1 => ta σ H1 fun x H2 => ∃ a C dx fs, x = .ref a ∧ H2 a = some (.ins C dx fs) ∧ Cls K C ∧ NoAttr K C f ∧ fs.length < 1000 ∧
  D.nx σ (upd H2 a (.ins C dx (putF f y fs)))
def InOp (X : Cx) (op : Operator) (rd : V → V → Hp → VK → Prop) : Prop :=
  ∀ (pins : List (Addr × Obj)) (s : Shared) (σ : St) (H : Hp) (x y : V) (u v : Value) (Q : VK), Inv X pins σ H s → RelV x u → RelV y v → rd x y H Q → wpAny (model X.prog X.w) X.A (inplaceOp op u v) (EP X pins σ Q) X.xe s
def sFldAug (K : PySem.W.Frag) (ta tv : TE) (rd : V → V → Hp → VK → Prop) (f : Str) : TS := fun D σ H => ta σ H fun x H1 => ∃ a C dx fs v, x = .ref a ∧ H1 a = some (.ins C dx fs) ∧ Cls K C ∧ NoAttr K C f ∧ fs.lookup f = some v ∧
  tv σ H1 fun y H2 => rd v y H2 fun z H3 => ∃ dx' fs', H3 a = some (.ins C dx' fs') ∧ fs'.length < 1000 ∧ D.nx σ (upd H3 a (.ins C dx' (putF f z fs')))

section
variable {X : Cx} {o e value : Expr} {f : Str} {pos pos' tpos : Pos} {ta tv : TE}
def rAdd : V → V → Hp → VK → Prop := fun x y H Q => ∃ i j, x = .int i ∧ y = .int j ∧ Q (.int (i + j)) H
def rSub : V → V → Hp → VK → Prop := fun x y H Q => ∃ i j, x = .int i ∧ y = .int j ∧ Q (.int (i - j)) H
end

section
variable {X : Cx} {pins : List (Addr × Obj)} {σ : St} {H : Hp} {s : Shared} {A : Around} {E : Value → Shared → Prop} {Q : Value → Shared → Prop} {c : Value} {b : Bool}
inductive TyOf (K : PySem.W.Frag) (H : Hp) : V → Value → Prop where
  | non : TyOf K H .non (.type "NoneType")
  | bl (x : Bool) : TyOf K H (.bl x) (.type "bool")
  | int (i : Int) : TyOf K H (.int i) (.type "int")
  | str (x : Str) : TyOf K H (.str x) (.type "str")
  | flt (x : UInt64) : TyOf K H (.flt x) (.type "float")
  | lst {a : Addr} {xs : List V} (e : H a = some (.lst xs)) : TyOf K H (.ref a) (.type "list")
  | frz {a : Addr} {o : Obj} {xs : List V} (e : H a = some (.frz o (.lst xs))) : TyOf K H (.ref a) (.type "list")
  | tup {a : Addr} {xs : List V} (e : H a = some (.tup xs)) : TyOf K H (.ref a) (.type "tuple")
  | dK {a : Addr} {kvs : List (Key × V)} (e : H a = some (.dK kvs)) : TyOf K H (.ref a) (.type "dict")
  | dT {a : Addr} {kvs : List (List Key × V)} (e : H a = some (.dT kvs)) : TyOf K H (.ref a) (.type "dict")
  | ins {a C dx : Addr} {fs : List (Str × V)} (e : H a = some (.ins C dx fs)) (cl : Cls K C) (ha : PySem.W.findIn K (.ref C) "__class__" = some (some (.builtin "object.__class__")))
      (hn : PySem.W.specialIn K (.builtin "object.__class__") "__get__" = some (some (.builtin "getset_descriptor.__get__"))) (htk : PySem.W.takesIn K (.builtin "object.__class__") = some true)
      (hm : PySem.W.mroIn K C (.type "object") = some true) : TyOf K H (.ref a) (.ref C)
theorem isinst_ok {x : V} {u t : Value} (I : Inv X pins σ H s) (rx : RelV x u) (ty : TyOf X.K H x t) (e : PySem.W.kitOne X.K t c = some b) (h : ∀ tk, Q (.bool b) { s with toks := tk }) :
    wpAny (model X.prog X.w) A (call (.builtin "isinstance") [u, c]) Q E s := by
  cases ty with
  | non => cases (show u = Value.none from rx); exact PySem.W.kia_one PySem.W.kitx_none I.kIn True.intro e (fun z => nomatch z) h
  | bl y => cases (show u = Value.bool y from rx); exact PySem.W.kia_one PySem.W.kitx_bool I.kIn True.intro e (fun z => nomatch z) h
  | int i => obtain ⟨t, q⟩ := (show ∃ t, u = Value.int i t from rx); cases q; exact PySem.W.kia_one PySem.W.kitx_int I.kIn True.intro e (fun z => nomatch z) h
  | str y => obtain ⟨t, q⟩ := (show ∃ t, u = Value.str y t from rx); cases q; exact PySem.W.kia_one PySem.W.kitx_str I.kIn True.intro e (fun z => nomatch z) h
  | flt y => obtain ⟨t, q⟩ := (show ∃ t, u = Value.float y t from rx); cases q; exact PySem.W.kia_one PySem.W.kitx_float I.kIn True.intro e (fun z => nomatch z) h
  | @lst a xs ea =>
    cases (show u = Value.ref a from rx)
    obtain ⟨_, _, n, _, h1⟩ := (show ObjOk X.prog X.w H s.heap a (.lst xs) from I.hok a _ ea)
    exact PySem.W.kia_one PySem.W.kitx_list I.kIn ⟨_, h1, rfl⟩ e (fun z => nomatch z) h
  | @frz a ob xs ea =>
    cases (show u = Value.ref a from rx)
    obtain ⟨_, _, _, n, _, h1⟩ := (show ObjOk X.prog X.w H s.heap a (.frz ob (.lst xs)) from I.hok a _ ea)
    exact PySem.W.kia_one PySem.W.kitx_list I.kIn ⟨_, h1, rfl⟩ e (fun z => nomatch z) h
  | @tup a xs ea =>
    cases (show u = Value.ref a from rx)
    obtain ⟨_, _, _, p⟩ := (show ObjOk X.prog X.w H s.heap a (.tup xs) from I.hok a _ ea)
    obtain ⟨o, h1, h2, _⟩ := p
    exact PySem.W.kia_one PySem.W.kitx_tuple I.kIn ⟨o, h1, h2⟩ e (fun z => nomatch z) h
  | @dK a kvs ea =>
    cases (show u = Value.ref a from rx)
    obtain ⟨_, _, vs, _, p⟩ := (show ObjOk X.prog X.w H s.heap a (.dK kvs) from I.hok a _ ea)
    obtain ⟨o, es, ep, h1, h2, _⟩ := p
    exact PySem.W.kia_one PySem.W.kitx_dict I.kIn ⟨o, h1, h2.1⟩ e (fun z => nomatch z) h
  | @dT a kvs ea =>
    cases (show u = Value.ref a from rx)
    obtain ⟨_, _, xs, _, o, es, ep, h1, h2, _⟩ := (show ObjOk X.prog X.w H s.heap a (.dT kvs) from I.hok a _ ea)
    exact PySem.W.kia_one PySem.W.kitx_dict I.kIn ⟨o, h1, h2.1⟩ e (fun z => nomatch z) h
  | @ins a C dx fs ea cl ha hn htk hm =>
    cases (show u = Value.ref a from rx)
    obtain ⟨mA, O, _⟩ := ins_get I.hok ea
    obtain ⟨od, J, _⟩ := O.look
    exact PySem.W.kia_one (PySem.W.kitx_own (cl.get _) cl.hd ha hn htk hm) I.kIn J e (fun z => nomatch z) h
end
end L2

namespace L2
open PySem PySem.Spec PyProof.Rows

structure Room (k : Nat) (A : Around) : Prop where
  hd : A.handled = none
  dp : A.depth + 3 * k + 5 < recursionLimit
  un : A.units + 16 * k + 200 < cLine
theorem Room.mono {j k : Nat} {A : Around} (r : Room k A) (h : j ≤ k) : Room j A := ⟨r.hd, by have := r.dp; omega, by have := r.un; omega⟩
theorem Room.deeper {k : Nat} {A : Around} (r : Room (k + 1) A) (env : Env) : Room k (A.deeper env) :=
  ⟨r.hd, by have := r.dp; show A.depth + 1 + 3 * k + 5 < _; omega, by have := r.un; show A.units + 3 + 16 * k + 200 < _; omega⟩
theorem Room.depth {k : Nat} {A : Around} (r : Room k A) : A.depth < recursionLimit := by have := r.dp; omega
theorem Room.units {k : Nat} {A : Around} (r : Room k A) : A.units + 64 < cLine := by have := r.un; omega
theorem Room.units0 {k : Nat} {A : Around} (r : Room k A) : A.units < cLine := by have := r.un; omega

def tNil : TA := fun _ H Q => Q [] H
def tCons (ta : TE) (tr : TA) : TA := fun σ H Q => ta σ H fun x H1 => tr σ H1 fun xs H2 => Q (x :: xs) H2
section
variable {X : Cx} {e : Expr} {es : List Expr} {te : TE} {t : TA} {pos : Pos}
theorem pa_nil : PA X [] tNil := fun _ _ _ _ H Q I h => Calls.spliced_nil ⟨[], H, I, .nil, h⟩
theorem pa_cons (ha : PE X e te) (hr : PA X es t) (hs : starEach (e :: es) X.env = (false, eval e X.env) :: starEach es X.env := by rfl) : PA X (e :: es) (tCons te t) := by
  intro pos pins s σ H Q I h
  rw [hs]
  show wpAny _ _ (spliced ((false, eval e X.env) :: backTo pos (starEach es X.env))) _ _ s
  refine Calls.spliced_cons (thn (ha pins s σ H _ I h) fun u s1 ⟨x, H1, I1, r1, q1⟩ => ?_)
  exact thn (hr pos pins s1 σ H1 _ I1 q1) fun us s2 ⟨xs, H2, I2, r2, q2⟩ => ⟨x :: xs, H2, I2, .cons r1 r2, q2⟩

def tTup (t : TA) : TE := fun σ H Q => t σ H fun xs H1 => xs.length ≤ sizeLine ∧ ∀ p, H1 p = none → Q (.ref p) (upd H1 p (.tup xs))
def tLst (t : TA) : TE := fun σ H Q => t σ H fun xs H1 => xs.length ≤ sizeLine ∧ ∀ p, H1 p = none → Q (.ref p) (upd H1 p (.lst xs))
theorem pe_tup {x1} (h : PA X es t) : PE X (.Tuple es x1 pos) (tTup t) := by
  intro pins s σ H Q I hq
  refine wpAny_Tuple_spliced (thn (h pos pins s σ H _ I hq) fun us s1 ⟨xs, H1, I1, r, z, q⟩ => ⟨by rw [← r.length]; exact z, ?_⟩)
  have hf : H1 s1.heap.objs.size = none := I1.hok.fresh (Nat.le_refl _)
  refine ⟨.ref s1.heap.objs.size, upd H1 s1.heap.objs.size (.tup xs), I1.laid (t' := s1.toks) (fun b u e => Heap.get?_push_of_some _ e) (Nat.le_refl _) ?_, rfl, q _ hf⟩
  exact ⟨z, us, r, ⟨_, Heap.get?_push_size _ rfl, rfl, _, rfl⟩⟩
theorem pe_lst (h : PA X es t) : PE X (.List es pos) (tLst t) := by
  intro pins s σ H Q I hq
  refine wpAny_List_spliced (thn (h pos pins s σ H _ I hq) fun us s1 ⟨xs, H1, I1, r, z, q⟩ => ⟨by rw [← r.length]; exact z, ?_⟩)
  have hf : H1 s1.heap.objs.size = none := I1.hok.fresh (Nat.le_refl _)
  refine ⟨.ref s1.heap.objs.size, upd H1 s1.heap.objs.size (.lst xs), I1.laid (t' := s1.toks) (fun b u e => Heap.get?_push_of_some _ e) (Nat.le_refl _) ?_, rfl, q _ hf⟩
  exact ⟨z, us, 0, r, Heap.get?_push_size _ rfl⟩
end

abbrev Sp := List V → Hp → VK → XK → Prop
abbrev CXT := List Env → Hp → Shared → XK → Value → Shared → Prop

structure Env0 (P : Program) (w : World) (K : PySem.W.Frag) (mg : Str → Option Value) (base : Heap) (A : Around) (outer : List Env) (s : Shared) (H : Hp) : Prop where
  frames : A.frames = some outer
  mod : Mod K mg base
  bs : ∀ b o, base.get? b = some o → s.heap.get? b = some o ∧ H b = none
  bsz : base.objs.size ≤ s.heap.objs.size
  funs : s.heap.FunFrames base outer
  frf : ∀ b ∈ frs outer, H b = none
  hok : HOk P w H s.heap
  bare : AllBare s.gens
def CE (outer : List Env) (P : Program) (w : World) (H : Hp) (s : Shared) (Q : VK) (u : Value) (s' : Shared) : Prop :=
  ∃ v H', s'.os = s.os ∧ AllBare s'.gens ∧ Un (frs outer) [] H H' s.heap s'.heap ∧ HOk P w H' s'.heap ∧ RelV v u ∧ Q v H'
def CR (CX : CXT) (outer : List Env) (P : Program) (w : World) (H : Hp) (s : Shared) (Q : VK) (E : XK) (r : Result) (s' : Shared) : Prop :=
  match r with
  | .ok (.ret u) => CE outer P w H s Q u s'
  | .ok _ => False
  | .error e => CX outer H s E e s'
structure FnOk (P : Program) (w : World) (K : PySem.W.Frag) (mg : Str → Option Value) (base : Heap) (CX : CXT) (k : Nat) (f : Addr) (fd : FuncData) (ps : List Str) (sp : Sp) : Prop where
  len : ∀ vs H Q E, sp vs H Q E → vs.length = ps.length
  run : ∀ (A : Around) (outer : List Env) (s : Shared) (H : Hp) (args : Args) (us : List Value) (vs : List V) (Q : VK) (E : XK), Room k A → Env0 P w K mg base A outer s H → BindsTo s fd args (ps.zip us) → Vals vs us → sp vs H Q E →
    codeAny (model P w) A (.call (.ref f) args) (CR CX outer P w H s Q E) s
theorem FnOk.mono {P : Program} {w : World} {K : PySem.W.Frag} {mg : Str → Option Value} {base : Heap} {CX : CXT} {j k : Nat} {f : Addr} {fd : FuncData} {ps : List Str} {sp : Sp} (F : FnOk P w K mg base CX j f fd ps sp) (h : j ≤ k) :
    FnOk P w K mg base CX k f fd ps sp := ⟨F.len, fun A outer s H args us vs Q E hr => F.run A outer s H args us vs Q E (hr.mono h)⟩
section
variable {X : Cx} {pins : List (Addr × Obj)} {σ : St} {H : Hp} {s s' : Shared}
theorem Inv.env0 (I : Inv X pins σ H s) : Env0 X.prog X.w X.K X.mg X.base X.A X.stack s H :=
  ⟨I.ok.frames, I.ok.mod, I.bs, Nat.le_trans I.ok.bsz I.sz, I.stack, I.stkFree, I.hok, I.bare⟩
theorem Inv.after {Q : VK} {u : Value} (I : Inv X pins σ H s) (h : CE X.stack X.prog X.w H s Q u s') : EP X pins σ Q u s' := by
  obtain ⟨v, H', os, bare, un, hok, r, q⟩ := h
  obtain ⟨hh, g, d, t, os'⟩ := s'
  obtain rfl : os' = s.os := os
  exact ⟨v, H', I.call (h' := hh) (g' := g) (d' := d) (t' := t) (ch := []) un hok bare (fun b z => absurd z (by simp)), r, q⟩
end

def tCall (sp : Sp) (dvs : List V) (E : XK) (t : TA) : TE := fun σ H Q => t σ H fun vs H1 => sp (vs ++ dvs) H1 Q E
def tMeth (C : Addr) (m : Str) (sp : Sp) (dvs : List V) (E : XK) (ta : TE) (t : TA) : TE := fun σ H Q => ta σ H fun x H1 => ∃ a dx fs, x = .ref a ∧ H1 a = some (.ins C dx fs) ∧ fs.lookup m = none ∧
  t σ H1 fun vs H2 => sp (x :: (vs ++ dvs)) H2 Q E
def tMake (C : Addr) (sp : Sp) (dvs : List V) (E : XK) (t : TA) : TE := fun σ H Q => t σ H fun vs H1 => ∀ x dx, H1 x = none → H1 dx = none → dx ≠ x →
  sp (.ref x :: (vs ++ dvs)) (upd (upd H1 dx (.own x)) x (.ins C dx [])) (fun v H2 => v = .non ∧ Q (.ref x) H2) E

def Binds (K : PySem.W.Frag) (fd : FuncData) (ps : List Str) (ds : List Value) : Prop :=
  ∀ (s : Shared) (us : List Value), K.In s.heap → (us ++ ds).length = ps.length → BindsTo s fd ⟨us, []⟩ (ps.zip (us ++ ds))
theorem Binds.all {K : PySem.W.Frag} {fd : FuncData} {ps : List Str} (h : ∀ us : List Value, us.length = ps.length → bindArgs fd ⟨us, []⟩ = pure (ps.zip us)) : Binds K fd ps [] := fun s us _ hl => by
  rw [List.append_nil] at hl ⊢
  exact .of_eq (h us hl)

def Passes (CX : CXT) (X : Cx) (E : XK) : Prop := ∀ (pins : List (Addr × Obj)) (σ : St) (H : Hp) (s : Shared) (e : Value) (s' : Shared), Inv X pins σ H s → CX X.stack H s E e s' → X.xe e s'

section
variable {X : Cx} {CX : CXT} {k : Nat} {f C : Addr} {fd : FuncData} {ps : List Str} {sp : Sp} {dvs : List V} {ds : List Value} {E : XK} {x m : Str} {p pos apos : Pos} {e o : Expr} {es : List Expr} {ta : TE} {t : TA}

theorem run_fn {pins : List (Addr × Obj)} {σ : St} {H : Hp} {s : Shared} {Q : VK} {us : List Value} {vs : List V} (F : FnOk X.prog X.w X.K X.mg X.base CX k f fd ps sp) (hr : Room k X.A) (hb : Binds X.K fd ps ds) (hd : Vals dvs ds) (hx : Passes CX X E)
    (I : Inv X pins σ H s) (r : Vals vs us) (h : sp (vs ++ dvs) H Q E) : wpAny (model X.prog X.w) X.A (call (.ref f) us) (EP X pins σ Q) X.xe s := by
  have r2 : Vals (vs ++ dvs) (us ++ ds) := r.append hd
  have hl : (us ++ ds).length = ps.length := by rw [← r2.length]; exact F.len _ _ _ _ h
  refine wpAny_call (codeAny_mono (F.run X.A X.stack s H ⟨us, []⟩ (us ++ ds) (vs ++ dvs) Q E hr I.env0 (hb s us I.kIn hl) r2 h) fun r s' hq => ?_)
  cases r with
  | error e => exact hx pins σ H s e s' I hq
  | ok fl =>
    cases fl with
    | ret u => exact I.after hq
    | next => exact False.elim hq
    | brk => exact False.elim hq
    | cont => exact False.elim hq

theorem pe_call (F : FnOk X.prog X.w X.K X.mg X.base CX k f fd ps sp) (hr : Room k X.A) (hg : Gl X x) (hm : X.mg x = some (.ref f)) (hk : PySem.W.keepIn X.K (.ref f) = true) (hb : Binds X.K fd ps ds) (hd : Vals dvs ds) (hx : Passes CX X E)
    (ha : PA X (e :: es) t) (hdb : (x == ("__debug__" : Str)) = false := by decide) (he : starEach (e :: es) X.env = (false, eval e X.env) :: starEach es X.env := by rfl) (hpl : (backTo pos (starEach es X.env)).any (·.1) = false := by rfl) :
    PE X (.Call (.Name x p) (e :: es) [] pos) (tCall sp dvs E t) := by
  intro pins s σ H Q I h
  refine wpAny_Call_Name_kw (ld_glob I hg hm ?_ hdb)
  refine PySem.W.callWith_K (h₀ := X.base) I.ok.mod.kin hk (thn (ha pos pins s σ H _ I h) fun us s1 ⟨vs, H1, I1, r, q⟩ => ⟨I1.kIn, ?_⟩) he hpl
  exact run_fn F hr hb hd hx I1 r q
structure Mk (K : PySem.W.Frag) (C f : Addr) : Prop where
  makes : PySem.W.makesIn K C = true
  init : PySem.W.findIn K (.ref C) "__init__" = some (some (.ref f))
  fn : PySem.W.isFn K (.ref f) = true
  kp : PySem.W.keepIn K (.ref C) = true

end

def PK (X : Cx) (kws : List Keyword) (t : TA) : Prop :=
  ∀ (pos : Pos) (pins : List (Addr × Obj)) (s : Shared) (σ : St) (H : Hp) (Q : List V → Hp → Prop), Inv X pins σ H s → t σ H Q → wpAny (model X.prog X.w) X.A (evalAll ((backToKw pos (keywordEach kws X.env)).map (·.2))) (AP X pins σ Q) X.xe s
section
variable {X : Cx} {CX : CXT} {k : Nat} {f C : Addr} {fd : FuncData} {ps ks : List Str} {sp : Sp} {E : XK} {x m : Str} {p pos apos kpos : Pos} {e o : Expr} {es : List Expr} {kws : List Keyword} {te ta : TE} {t tk : TA} {nm : Option Str}
theorem pk_nil : PK X [] tNil := fun _ _ _ _ H Q I h => wpAny_evalAll_nil ⟨[], H, I, .nil, h⟩
theorem pk_cons (ha : PE X e te) (hr : PK X kws t) : PK X (⟨nm, e, kpos⟩ :: kws) (tCons te t) := by
  intro pos pins s σ H Q I h
  show wpAny _ _ (evalAll ((do let v ← eval e X.env; standAt pos; pure v) :: (backToKw pos (keywordEach kws X.env)).map (·.2))) _ _ s
  refine wpAny_evalAll_cons (wpAny_bind (thn (ha pins s σ H _ I h) fun u s1 ⟨x, H1, I1, r1, q1⟩ => wpAny_bind (wpAny_standAt (wpAny_pure ?_))))
  exact thn (hr pos pins s1 σ H1 _ I1 q1) fun us s2 ⟨xs, H2, I2, r2, q2⟩ => ⟨x :: xs, H2, I2, .cons r1 r2, q2⟩

structure KBinds (K : PySem.W.Frag) (fd : FuncData) (ps ks : List Str) (g : List Value → List Value → List Value) (gV : List V → List V → List V) : Prop where
  to : ∀ (s : Shared) (us ws : List Value), K.In s.heap → (g us ws).length = ps.length → BindsTo s fd ⟨us, ks.zip ws⟩ (ps.zip (g us ws))
  rel : ∀ {vs : List V} {us : List Value} {zs : List V} {ws : List Value}, Vals vs us → Vals zs ws → Vals (gV vs zs) (g us ws)
def tCallK (sp : Sp) (gV : List V → List V → List V) (E : XK) (t tk : TA) : TE := fun σ H Q => t σ H fun vs H1 => tk σ H1 fun zs H2 => sp (gV vs zs) H2 Q E
variable {g : List Value → List Value → List Value} {gV : List V → List V → List V}
end

structure FnScope (N P : List Str) (sc : Scope) : Prop where
  kind : sc.kind = .function
  co : sc.isCoroutine = false
  gen : sc.isGenerator = false
  nd : N.Nodup
  pre : N.take P.length = P
  par : ∀ x ∈ P, sc.names.lookup x = some .local ∨ sc.names.lookup x = some .cell
  nofree : ∀ y ∈ sc.names, y.2 ≠ .free

theorem bindL_out {kindOf : Str → Option NameKind} {x : Str} : ∀ {binds : List (Str × Value)} {m : Str → Option Value}, (∀ v, (x, v) ∉ binds) → bindL kindOf binds m x = m x
  | [], _, _ => rfl
  | (n, v) :: r, m, h => by
    unfold bindL
    rw [bindL_out fun w hw => h w (List.mem_cons_of_mem _ hw)]
    split
    · have : x ≠ n := by rintro rfl; exact h v List.mem_cons_self
      simp [this]
    · rfl
theorem bindC_out {kindOf : Str → Option NameKind} {x : Str} : ∀ {binds : List (Str × Value)} {m : Str → Option Value}, (∀ v, (x, v) ∉ binds) → bindC kindOf binds m x = m x
  | [], _, _ => rfl
  | (n, v) :: r, m, h => by
    unfold bindC
    rw [bindC_out fun w hw => h w (List.mem_cons_of_mem _ hw)]
    split
    · rfl
    · have : x ≠ n := by rintro rfl; exact h v List.mem_cons_self
      simp [this]
theorem bindL_get {kindOf : Str → Option NameKind} {x : Str} {v : Value} : ∀ {P : List Str} {vs : List Value} {i : Nat} {m : Str → Option Value}, P.Nodup → P[i]? = some x → vs[i]? = some v → kindOf x = some .local →
    bindL kindOf (P.zip vs) m x = some v
  | [], _, _, _, _, h, _, _ => by simp at h
  | _ :: _, [], _, _, _, _, h, _ => by simp at h
  | p :: P, w :: vs, 0, m, nd, h1, h2, hk => by
    simp at h1 h2; subst h1; subst h2
    show bindL kindOf ((p, w) :: P.zip vs) m p = _
    unfold bindL
    rw [bindL_out fun v hv => (List.nodup_cons.mp nd).1 (List.of_mem_zip hv).1, if_pos hk]
    simp
  | p :: P, w :: vs, i + 1, m, nd, h1, h2, hk => by
    show bindL kindOf ((p, w) :: P.zip vs) m x = _
    unfold bindL
    exact bindL_get (i := i) (List.nodup_cons.mp nd).2 (by simpa using h1) (by simpa using h2) hk
theorem bindC_get {kindOf : Str → Option NameKind} {x : Str} {v : Value} : ∀ {P : List Str} {vs : List Value} {i : Nat} {m : Str → Option Value}, P.Nodup → P[i]? = some x → vs[i]? = some v → kindOf x ≠ some .local →
    bindC kindOf (P.zip vs) m x = some v
  | [], _, _, _, _, h, _, _ => by simp at h
  | _ :: _, [], _, _, _, _, h, _ => by simp at h
  | p :: P, w :: vs, 0, m, nd, h1, h2, hk => by
    simp at h1 h2; subst h1; subst h2
    show bindC kindOf ((p, w) :: P.zip vs) m p = _
    unfold bindC
    rw [bindC_out fun v hv => (List.nodup_cons.mp nd).1 (List.of_mem_zip hv).1, if_neg hk]
    simp
  | p :: P, w :: vs, i + 1, m, nd, h1, h2, hk => by
    show bindC kindOf ((p, w) :: P.zip vs) m x = _
    unfold bindC
    exact bindC_get (i := i) (List.nodup_cons.mp nd).2 (by simpa using h1) (by simpa using h2) hk

def start (N : List Str) (vs : List V) : St := vs.map some ++ List.replicate (N.length - vs.length) none

def cxOf (CX : CXT) (P : Program) (w : World) (K : PySem.W.Frag) (mg : Str → Option Value) (base : Heap) (N : List Str) (qual : Str) (scope : Scope) (f : Addr) (cd : Value) (A : Around) (outer : List Env) (s : Shared) (H : Hp) (E : XK) : Cx where
  prog := P
  w := w
  K := K
  mg := mg
  base := base
  A := A.deeper (envOfC qual scope s.heap.objs.size f cd)
  N := N
  s₀ := s
  H₀ := H
  env := envOfC qual scope s.heap.objs.size f cd
  outer := outer
  stack := envOfC qual scope s.heap.objs.size f cd :: outer
  ex := []
  calm := true
  fn := fun _ => true
  pn := []
  xe := fun e s' => wpAny (model P w) (A.deeper (envOfC qual scope s.heap.objs.size f cd)) (leaving (envOfC qual scope s.heap.objs.size f cd) e) (fun _ s'' => CX outer H s E e s'') (fun e' s'' => CX outer H s E e' s'') s'

theorem cell_has {sc : Scope} {n : Nat} {x : Str} (h : sc.names.lookup x = some .cell) : ∃ c, (cellsFrom n sc.names []).lookup x = some c := by
  have q := PySem.W.cellsFrom_some sc.names n [] (.inl h)
  exact Option.isSome_iff_exists.mp q

theorem inv_start {CX : CXT} {P : Program} {w : World} {K : PySem.W.Frag} {mg : Str → Option Value} {base : Heap} {N ps : List Str} {qual : Str} {scope : Scope} {f : Addr} {cd : Value} {A : Around} {outer : List Env} {s s1 : Shared} {H : Hp} {E : XK} {us : List Value} {vs : List V}
    (S : FnScope N ps scope) (hd : A.handled = none) (e0 : Env0 P w K mg base A outer s H) (hl : vs.length = ps.length) (r : Vals vs us)
    (x : InCallC s s.heap.objs.size (bindL (envOfC qual scope s.heap.objs.size f cd).kindOf (ps.zip us) fun _ => none) (cellsFrom (s.heap.objs.size + 1) scope.names []) (bindC (envOfC qual scope s.heap.objs.size f cd).kindOf (ps.zip us) fun _ => none) s1) :
    Inv (cxOf CX P w K mg base N qual scope f cd A outer s H E) [] (start N vs) H s1 := by
  have hpl : ps.length ≤ N.length := by have := congrArg List.length S.pre; rw [List.length_take] at this; omega
  obtain ⟨h1, tk, rfl, hk⟩ := x.done
  have noA : ∀ b : Addr, b ∉ (cxOf CX P w K mg base N qual scope f cd A outer s H E).ex := fun b z => absurd (show b ∈ ([] : List Addr) from z) (by simp)
  refine ⟨⟨e0.mod, S.kind, rfl, rfl, Nat.le_refl _, fun y z c h1 h2 => ?_, fun y hy => ?_, fun y c _ h => ?_, fun _ => hd, Around.frames_deeper e0.frames, .inr ⟨rfl, rfl⟩, fun b z => absurd z (noA b), e0.bs, e0.bsz, fun b _ _ => noA b, fun b z => absurd z (noA b), e0.funs, e0.frf⟩,
    rfl, e0.bare, Un.kept hk, ⟨_, x.toInCall.ns, fun i y v h1 h2 h3 => ?_⟩, fun y c h => ⟨_, x.cell y c h⟩, e0.hok.fresh (Nat.le_refl _), fun y c h => ?_, fun p hp => absurd (show p ∈ ([] : List (Addr × Obj)) from hp) (by simp), e0.hok.kept hk, ?_⟩
  · exact name_of_addr x.apart (PySem.mem_of_lookup h1) (PySem.mem_of_lookup h2)
  · have hy : scope.names.lookup y = some .cell ∨ scope.names.lookup y = some .free := hy
    rcases hy with hy | hy
    · exact cell_has hy
    · exact absurd rfl (S.nofree _ (PySem.mem_of_lookup hy))
  · exact Nat.le_of_lt (x.above y c (PySem.mem_of_lookup h))
  · have hi : i < vs.length := by
      unfold start at h2
      by_cases hi : i < vs.length
      · exact hi
      · rw [List.getElem?_append_right (by simpa using hi)] at h2
        rw [List.getElem?_replicate] at h2
        split at h2 <;> cases h2
    have ha : vs[i]? = some v := by
      unfold start at h2
      rw [List.getElem?_append_left (by simpa using hi), List.getElem?_map] at h2
      cases e : vs[i]? with
      | none => rw [e] at h2; cases h2
      | some a => rw [e] at h2; cases h2; rfl
    obtain ⟨u, hu, rv⟩ := r.get ha
    have hp : ps[i]? = some y := by
      rw [← S.pre, List.getElem?_take_of_lt (by omega)]; exact h1
    have ndP : ps.Nodup := by rw [← S.pre]; exact S.nd.sublist (List.take_sublist _ _)
    refine ⟨u, rv, ?_⟩
    rcases S.par y (List.mem_of_getElem? hp) with k | k
    · exact .inl ⟨k, bindL_get ndP hp hu k⟩
    · obtain ⟨c, e⟩ := cell_has (n := s.heap.objs.size + 1) k
      refine .inr ⟨.inl k, c, e, ?_⟩
      have q := x.cell y c e
      rw [bindC_get ndP hp hu (by show scope.names.lookup y ≠ _; rw [k]; decide)] at q
      exact q
  · exact e0.hok.fresh (Nat.le_of_lt (x.above y c (PySem.mem_of_lookup h)))
  · unfold start
    show _ = N.length
    rw [List.length_append, List.length_map, List.length_replicate]
    omega

theorem fn_of {CX : CXT} {P : Program} {w : World} {K : PySem.W.Frag} {mg : Str → Option Value} {base : Heap} {k : Nat} {f : Addr} {name qual : Str} {params : Arguments} {body : List Stmt} {scope : Scope} {dV kV doc pm cdv ct oc : Value} {an od : Option Addr}
    {osl : Array (Option Value)} {N ps : List Str} {sp : Sp} (lk : K.lookup f = some ⟨oc, od, .func (PySem.W.fnOf name qual params body scope dV kV doc pm an cdv ct), osl⟩) (hcd : PySem.W.codeIn K cdv qual = true) (S : FnScope N ps scope)
    (len : ∀ vs H Q E, sp vs H Q E → vs.length = ps.length)
    (hbody : ∀ (A : Around) (outer : List Env) (s : Shared) (H : Hp) (vs : List V) (Q : VK) (E : XK), Room k (A.deeper (envOfC qual scope s.heap.objs.size f cdv)) → sp vs H Q E →
      ∃ t, PSs (cxOf CX P w K mg base N qual scope f cdv A outer s H E) body t ∧ t { nx := fun _ H' => Q .non H', rt := Q } (start N vs) H) :
    FnOk P w K mg base CX (k + 1) f (PySem.W.fnOf name qual params body scope dV kV doc pm an cdv ct) ps sp := by
  refine ⟨len, fun A outer s H args us vs Q E hr e0 hb r hsp => ?_⟩
  have hl := len _ _ _ _ hsp
  have KX : K.In s.heap := e0.mod.kin.keeps fun b o e => (e0.bs b o e).1
  have lim : s.heap.NoLimit := e0.mod.nolimit.keeps fun b o e => (e0.bs b o e).1
  have hkind : ∀ y ∈ ps.zip us, scope.names.lookup y.1 = some .local ∨ (scope.names.lookup y.1 = some .cell ∧ ((cellsFrom (s.heap.objs.size + 1) scope.names []).lookup y.1).isSome = true) := fun ⟨n, v⟩ hy => by
    rcases S.par n (List.of_mem_zip hy).1 with q | q
    · exact .inl q
    · exact .inr ⟨q, PySem.W.cellsFrom_some _ _ _ (.inl q)⟩
  refine codeAny_call_function hr.depth (KX _ _ lk) rfl S.co S.gen rfl (PySem.W.codeRec_of KX hcd) (hb _ _ _ _ ?_)
  refine wpAny_newFunctionEnv_cells S.kind hkind fun env he s1 x => ?_
  subst he
  refine ⟨lim.keeps x.toInCall.keep, codeAny_func ?_⟩
  obtain ⟨t, ht, hq⟩ := hbody A outer s H vs Q E (hr.deeper _) hsp
  have I : Inv (cxOf CX P w K mg base N qual scope f cdv A outer s H E) [] (start N vs) H s1 := inv_start S hr.hd e0 hl r x
  refine wpAny_mono (ht [] s1 (start N vs) H _ I hq) (fun fl s' hs => ?_) fun e s' hs => hs
  have fin : ∀ {σ' : St} {H' : Hp} {v : V} {u : Value}, Inv (cxOf CX P w K mg base N qual scope f cdv A outer s H E) [] σ' H' s' → RelV v u → Q v H' → CE outer P w H s Q u s' :=
    fun {σ' H' v u} J rv q => ⟨v, H', J.os, J.bare, J.base, J.hok, rv, q⟩
  cases fl with
  | ret u =>
    obtain ⟨v, σ', H', J, rv, q⟩ := hs
    exact fin J rv q
  | next =>
    obtain ⟨σ', H', J, q⟩ := hs
    exact fin (v := V.non) (u := Value.none) J rfl q
  | brk =>
    obtain ⟨_, _, _, q⟩ := hs
    exact False.elim q
  | cont =>
    obtain ⟨_, _, _, q⟩ := hs
    exact False.elim q
end L2

namespace L2
open PySem PySem.Spec PyProof.Rows
section
variable {X : Cx} {x : Str} {p pos : Pos} {e : Expr} {es : List Expr} {t : TA} {id T : String} {r : List V → Hp → VK → Prop}

def tCB (r : List V → Hp → VK → Prop) (t : TA) : TE := fun σ H Q => t σ H fun vs H1 => r vs H1 Q
theorem pe_callB (hc : CallR X (.builtin id) r) (hg : Gl X x) (hm : X.mg x = none) (hv : bootBuiltins x = some (.builtin id)) (ha : PA X (e :: es) t) (hn : x ≠ "__name__" := by decide) (hdb : (x == ("__debug__" : Str)) = false := by decide)
    (he : starEach (e :: es) X.env = (false, eval e X.env) :: starEach es X.env := by rfl) (hpl : (backTo pos (starEach es X.env)).any (·.1) = false := by rfl) : PE X (.Call (.Name x p) (e :: es) [] pos) (tCB r t) := by
  intro pins s σ H Q I h
  refine wpAny_Call_Name_kw (ld_blt I hg hm hv ?_ hn hdb)
  exact PyProof.Rows.callWith_builtin1 (thn (ha pos pins s σ H _ I h) fun us s1 ⟨vs, H1, I1, r1, q1⟩ => hc pins s1 σ H1 vs us Q I1 r1 q1) he hpl
theorem pe_callTy (hc : CallR X (.type T) r) (hg : Gl X x) (hm : X.mg x = none) (hv : bootBuiltins x = some (.type T)) (ha : PA X (e :: es) t) (hn : x ≠ "__name__" := by decide) (hdb : (x == ("__debug__" : Str)) = false := by decide)
    (he : starEach (e :: es) X.env = (false, eval e X.env) :: starEach es X.env := by rfl) (hpl : (backTo pos (starEach es X.env)).any (·.1) = false := by rfl) : PE X (.Call (.Name x p) (e :: es) [] pos) (tCB r t) := by
  intro pins s σ H Q I h
  refine wpAny_Call_Name_kw (ld_blt I hg hm hv ?_ hn hdb)
  exact PyProof.Rows.callWith_type1 (thn (ha pos pins s σ H _ I h) fun us s1 ⟨vs, H1, I1, r1, q1⟩ => hc pins s1 σ H1 vs us Q I1 r1 q1) he hpl
end
end L2

namespace HT
open PySem PyProof.Rows

def lexLt : List Int → List Int → Bool
  | [], [] => false
  | [], _ :: _ => true
  | _ :: _, [] => false
  | x :: xs, y :: ys => if x = y then lexLt xs ys else decide (x < y)
theorem lexLt_cons (x y : Int) (xs ys : List Int) : lexLt (x :: xs) (y :: ys) = if x = y then lexLt xs ys else decide (x < y) := rfl
theorem lexLt_nil_cons (y : Int) (ys : List Int) : lexLt [] (y :: ys) = true := rfl
theorem lexLt_cons_nil (x : Int) (xs : List Int) : lexLt (x :: xs) [] = false := rfl

section
open PySem.SeqAt
open PySem.AutoSeq1 (wpAny_loadPart')
open PySem.MeetsSeq PySem.MeetsSeq2 PySem.MeetsSeq3

end

section
variable {prog : Program} {w : World} {A : Around} {E : Value → Shared → Prop} {s : Shared}

def sIx (n d : Nat) : Option Int → Nat
  | none => d
  | some v => if v < 0 then (v + (n : Int)).toNat else min v.toNat n
theorem sIx_nat (n d k : Nat) : sIx n d (some (k : Int)) = min k n := by
  show (if (k : Int) < 0 then ((k : Int) + (n : Int)).toNat else min (k : Int).toNat n) = min k n
  rw [if_neg (by omega), Int.toNat_natCast]
end
end HT

namespace L2
open PySem PySem.Spec PyProof.Rows

abbrev TO := St → Hp → (Option Int → Hp → Prop) → Prop
def PO (X : Cx) (e : Option Expr) (t : TO) : Prop :=
  ∀ (pins : List (Addr × Obj)) (s : Shared) (σ : St) (H : Hp) (Q : Option Int → Hp → Prop), Inv X pins σ H s → t σ H Q →
    wpAny (model X.prog X.w) X.A (evalPart e X.env) (fun u s' => ∃ o H', Inv X pins σ H' s' ∧ IsPart u o ∧ Q o H') X.xe s
def tNoPart : TO := fun _ H Q => Q none H
def tPart (t : TE) : TO := fun σ H Q => t σ H fun x H1 => ∃ i, x = .int i ∧ Q (some i) H1

theorem intsAre_of {ns : List Int} : ∀ {us : List Value}, Vals (ns.map V.int) us → IntsAre us ns := by
  induction ns with
  | nil => intro us r; rw [List.map_nil] at r; cases r; exact .nil
  | cons n ns ih =>
    intro us r
    rw [List.map_cons] at r
    cases r with
    | cons r1 r2 =>
      obtain ⟨t, e⟩ := r1
      subst e
      exact .cons n t (ih r2)

section
variable {X : Cx} {e : Expr} {te : TE} {lo hi : Option Expr} {tl th : TO} {pos p2 : Pos}

theorem po_none : PO X none tNoPart := by
  intro pins s σ H Q I h
  rw [evalPart_none]
  exact wpAny_pure ⟨none, H, I, .none, h⟩
theorem po_some (h : PE X e te) : PO X (some e) (tPart te) := by
  intro pins s σ H Q I hw
  rw [evalPart_some]
  refine thn (h pins s σ H _ I hw) fun u s1 ⟨x, H1, I1, r1, q1⟩ => ?_
  obtain ⟨i, rfl, q⟩ := q1
  obtain ⟨t, rfl⟩ := r1
  exact ⟨some i, H1, I1, .int i t, q⟩

def SlR (X : Cx) (r : V → Option Int → Option Int → Hp → VK → Prop) : Prop :=
  ∀ (pins : List (Addr × Obj)) (s : Shared) (σ : St) (H : Hp) (x : V) (v vl vu : Value) (lo hi : Option Int) (sl : Addr) (Q : VK), Inv X pins σ H s → RelV x v → s.heap.IsSliceOf sl vl vu .none → IsPart vl lo → IsPart vu hi → r x lo hi H Q →
    ∃ T id, typeLookup (.type T) "__getitem__" = pure (some (.builtin id)) ∧ s.TypeIs v T ∧ wpAny (model X.prog X.w) X.A (getItem v (.ref sl)) (EP X pins σ Q) X.xe s
def tSl (r : V → Option Int → Option Int → Hp → VK → Prop) (te : TE) (tl th : TO) : TE := fun σ H Q => te σ H fun x H1 => tl σ H1 fun l H2 => th σ H2 fun u H3 => r x l u H3 Q
theorem pe_slice {r : V → Option Int → Option Int → Hp → VK → Prop} (hr : SlR X r) (he : PE X e te) (hl : PO X lo tl) (hu : PO X hi th) : PE X (.Subscript e (.Slice lo hi none p2) pos) (tSl r te tl th) := by
  intro pins s σ H Q I h
  refine Subscript_ (thn (he pins s σ H _ I h) fun v s1 ⟨x, H1, I1, r1, q1⟩ => ?_)
  refine wpAny_Slice (thn (hl pins s1 σ H1 _ I1 q1) fun vl s2 ⟨l, H2, I2, pl, q2⟩ => thn (hu pins s2 σ H2 _ I2 q2) fun vu s3 ⟨u, H3, I3, pu, q3⟩ => ?_)
  rw [evalPart_none]
  refine wpAny_pure ?_
  have I4 : Inv X pins σ H3 { s3 with heap := s3.heap.push { cls := .type "slice", data := .fields #[vl, vu, .none] } } := I3.kept (t' := s3.toks) fun b ob q => Heap.get?_push_of_some _ q
  obtain ⟨T, id, hT, ht, hg⟩ := hr pins { s3 with heap := s3.heap.push { cls := .type "slice", data := .fields #[vl, vu, .none] } } σ H3 x v vl vu l u s3.heap.objs.size Q I4 r1 (Heap.IsSliceOf.new ..) pl pu q3
  show wpAny (model X.prog X.w) X.A (subscriptTail e (.Slice lo hi none p2) v (.ref s3.heap.objs.size)) (EP X pins σ Q) X.xe { s3 with heap := s3.heap.push { cls := .type "slice", data := .fields #[vl, vu, .none] } }
  exact tail_any (ops := [.ref s3.heap.objs.size, v]) ht hT hg (by with_unfolding_all rfl)

def cutV (xs : List V) (lo hi : Option Int) : List V := (xs.drop (HT.sIx xs.length 0 lo)).take (HT.sIx xs.length xs.length hi - HT.sIx xs.length 0 lo)
theorem cutV_length (xs : List V) (lo hi : Option Int) : (cutV xs lo hi).length ≤ xs.length := by
  unfold cutV
  rw [List.length_take, List.length_drop]
  omega
def rSlT (K : PySem.W.Frag) : V → Option Int → Option Int → Hp → VK → Prop := fun x lo hi H Q => ∃ a xs, x = .ref a ∧ SqT K H a xs ∧
  ¬ (HT.sIx xs.length 0 lo = 0 ∧ HT.sIx xs.length xs.length hi = xs.length) ∧ ∀ p, H p = none → Q (.ref p) (upd H p (.tup (cutV xs lo hi)))
def rLtT (K : PySem.W.Frag) : R2 := fun x y H Q => ∃ a b ns ms, x = .ref a ∧ y = .ref b ∧ SqT K H a (ns.map V.int) ∧ SqT K H b (ms.map V.int) ∧ Q (.bl (HT.lexLt ns ms)) H
def rCatT (K : PySem.W.Frag) : R2 := fun x y H Q => ∃ a b xs ys, x = .ref a ∧ y = .ref b ∧ SqT K H a xs ∧ SqT K H b ys ∧ xs ≠ [] ∧ xs.length + ys.length ≤ sizeLine ∧
  (ys = [] → Q (.ref a) H) ∧ (ys ≠ [] → ∀ p, H p = none → Q (.ref p) (upd H p (.tup (xs ++ ys))))
end
end L2

namespace L2
open PySem PySem.Spec PyProof.Rows

def ixN (n : Nat) (i : Int) : Option Nat := if 0 ≤ i then (if i < n then some i.toNat else none) else if -(n : Int) ≤ i then some (i + n).toNat else none
def atI {α : Type} (xs : List α) (i : Int) : Option α := (ixN xs.length i).bind fun j => xs[j]?
theorem ixN_seq {n : Nat} {i : Int} {j : Nat} (h : ixN n i = some j) : seqIndex? i n = some j ∧ j < n ∧ -(n : Int) ≤ i ∧ i < n := by
  unfold ixN at h
  by_cases h0 : 0 ≤ i
  · rw [if_pos h0] at h
    by_cases h1 : i < n
    · rw [if_pos h1] at h
      have e : i.toNat = j := Option.some.inj h
      exact ⟨by rw [seqIndex_of h0 h1, e], by omega, by omega, h1⟩
    · rw [if_neg h1] at h; cases h
  · rw [if_neg h0] at h
    by_cases h1 : -(n : Int) ≤ i
    · rw [if_pos h1] at h
      have e : (i + n).toNat = j := Option.some.inj h
      exact ⟨by rw [seqIndex_neg (by omega) h1, e], by omega, h1, by omega⟩
    · rw [if_neg h1] at h; cases h
theorem atI_get {α : Type} {xs : List α} {i : Int} {v : α} (h : atI xs i = some v) : ∃ j, seqIndex? i xs.length = some j ∧ xs[j]? = some v ∧ j < xs.length ∧ -(xs.length : Int) ≤ i ∧ i < xs.length := by
  unfold atI at h
  cases e : ixN xs.length i with
  | none => rw [e] at h; cases h
  | some j =>
    rw [e] at h
    obtain ⟨h1, h2, h3, h4⟩ := ixN_seq e
    exact ⟨j, h1, h, h2, h3, h4⟩
theorem atI_nat {α : Type} {xs : List α} {j : Nat} {v : α} (h : xs[j]? = some v) : atI xs (j : Int) = some v := by
  have hj : j < xs.length := (List.getElem?_eq_some_iff.mp h).1
  have e : ixN xs.length (j : Int) = some j := by
    unfold ixN
    rw [if_pos (by omega), if_pos (by omega)]; simp
  unfold atI; rw [e]; exact h
def PlainIx (b : Expr) : Prop := ∀ o i, subscripted b false o i = operate [o, i] (getItem o i)
def IxR (X : Cx) (r : R2) : Prop :=
  ∀ (value slice : Expr) (pins : List (Addr × Obj)) (s : Shared) (σ : St) (H : Hp) (x y : V) (v u : Value) (Q : VK), Inv X pins σ H s → RelV x v → RelV y u → r x y H Q →
    subscripted slice false v u = operate [v, u] (getItem v u) → wpAny (model X.prog X.w) X.A (subscriptTail value slice v u) (EP X pins σ Q) X.xe s
def MtR (X : Cx) (id : String) (r : V → List V → Hp → VK → Prop) : Prop :=
  ∀ (pins : List (Addr × Obj)) (s : Shared) (σ : St) (H : Hp) (x : V) (xs : List V) (v : Value) (us : List Value) (Q : VK), Inv X pins σ H s → RelV x v → Vals xs us → r x xs H Q →
    wpAny (model X.prog X.w) X.A (call (.builtin id) (v :: us)) (EP X pins σ Q) X.xe s
section
variable {X : Cx} {a b : Expr} {ta tb : TE} {pos : Pos}
theorem pe_ix {r : R2} (hr : IxR X r) (ha : PE X a ta) (hb : PE X b tb) (hs : PlainIx b) : PE X (.Subscript a b pos) (tOp r ta tb) := by
  intro pins s σ H Q I h
  exact Subscript_ (binT ha hb I h fun v u s2 x y H2 I2 rx ry q => hr a b pins s2 σ H2 x y v u Q I2 rx ry q (hs _ _))

def rIxL (K : PySem.W.Frag) : R2 := fun x y H Q => ∃ p xs i v, x = .ref p ∧ y = .int i ∧ SqL K H p xs ∧ atI xs i = some v ∧ Q v H
def rIxT (K : PySem.W.Frag) : R2 := fun x y H Q => ∃ p xs i v, x = .ref p ∧ y = .int i ∧ SqT K H p xs ∧ atI xs i = some v ∧ Q v H
def rIxS : R2 := fun x y H Q => ∃ z i c, x = .str z ∧ y = .int i ∧ z.length ≤ sizeLine ∧ atI z.cps.toList i = some c ∧ Q (.str ⟨#[c]⟩) H
theorem ix_list : IxR X (rIxL X.K) := by
  intro value slice pins s σ H x y v u Q I rx ry h hs
  obtain ⟨p, xs, i, z, rfl, rfl, hq, he, q⟩ := h
  cases rx
  obtain ⟨t, rfl⟩ := ry
  obtain ⟨its, r, pl, hz⟩ := I.list hq
  obtain ⟨j, h1, h2, h3, h4, h5⟩ := atI_get he
  obtain ⟨w, ew, rw'⟩ := r.get h2
  have hl := r.length
  have hn := line63
  have fin : EP X pins σ Q w s := ⟨z, H, I, rw', q⟩
  by_cases h0 : 0 ≤ i
  · have hj : i.toNat = j := by
      rw [seqIndex_of h0 h5] at h1
      exact Option.some.inj h1
    exact item_listR pl.isList h0 (by omega) (by rw [hj]; simpa using ew) fin hs
  · have hj : (i + (its.toArray.size : Int)).toNat = j := by
      rw [seqIndex_neg (by omega) h4] at h1
      rw [List.size_toArray, ← hl]
      exact Option.some.inj h1
    exact subscriptTail_builtinR (x := w) pl.isList.typeIs slot_list_getitem.lookup
      (wpAny_getItem_list_neg (Q := fun r s' => r = w ∧ EP X pins σ Q r s') pl.isList (by omega) (by rw [List.size_toArray] <;> omega) (by omega) (by rw [hj]; simpa using ew) ⟨rfl, fin⟩) hs
theorem ix_tup : IxR X (rIxT X.K) := by
  intro value slice pins s σ H x y v u Q I rx ry h hs
  obtain ⟨p, xs, i, z, rfl, rfl, hq, he, q⟩ := h
  cases rx
  obtain ⟨t, rfl⟩ := ry
  obtain ⟨its, r, pl, hz⟩ := I.tuple hq
  obtain ⟨j, h1, h2, h3, h4, h5⟩ := atI_get he
  obtain ⟨w, ew, rw'⟩ := r.get h2
  have hl := r.length
  have hn := line63
  have fin : EP X pins σ Q w s := ⟨z, H, I, rw', q⟩
  exact subscriptTail_builtinR (x := w) pl.typeIs slot_tuple_getitem.lookup
    (getItem_tuple (j := j) (Q := fun r s' => r = w ∧ EP X pins σ Q r s') pl (by omega) (by omega) (by rw [List.size_toArray, ← hl]; exact h1) (by simpa using ew) ⟨rfl, fin⟩) hs
theorem ix_str : IxR X rIxS := by
  intro value slice pins s σ H x y v u Q I rx ry h hs
  obtain ⟨z, i, c, rfl, rfl, hz, he, q⟩ := h
  obtain ⟨t, rfl⟩ := rx
  obtain ⟨t', rfl⟩ := ry
  obtain ⟨j, h1, h2, h3, h4, h5⟩ := atI_get he
  have hl : z.cps.toList.length = z.length := by simp [Str.length]
  rw [hl] at h1 h4 h5
  have hn := line63
  exact tail_any (typeIs_str s z t) slot_str_getitem.lookup (getItem_str (c := c) (by
    have e1 : decide (i < -(2 ^ 63 : Int)) = false := decide_eq_false (by omega)
    have e2 : decide (i ≥ 2 ^ 63) = false := decide_eq_false (by omega)
    rw [e1, e2, Bool.or_false]) (by rw [h1]; simpa using h2) ⟨.str ⟨#[c]⟩, H, I.tok _, ⟨_, rfl⟩, q⟩) hs
def rIx (K : PySem.W.Frag) : R2 := fun x y H Q => rIxL K x y H Q ∨ rIxT K x y H Q ∨ rIxS x y H Q
theorem mapSeq_set (its : List Value) (n j : Nat) (u : Value) : Obj.mapSeq (·.setIfInBounds j u) { cls := .type "list", data := .seq its.toArray n } = { cls := .type "list", data := .seq (its.set j u).toArray n } := by
  simp [Obj.mapSeq]
theorem Inv.lst {pins : List (Addr × Obj)} {σ : St} {H : Hp} {s : Shared} {p : Addr} {xs : List V} (I : Inv X pins σ H s) (h : H p = some (.lst xs)) :
    ∃ (its : List Value) (n : Nat), Vals xs its ∧ s.heap.get? p = some { cls := .type "list", data := .seq its.toArray n } ∧ xs.length ≤ sizeLine := by
  obtain ⟨z, its, n, r, e⟩ := I.hok p _ h
  exact ⟨its, n, r, e, z⟩
theorem Inv.lstUpd {pins : List (Addr × Obj)} {σ : St} {H : Hp} {s : Shared} {p : Addr} {xs ys : List V} {its its' : List Value} {n n' : Nat} {f : Obj → Obj} (I : Inv X pins σ H s) (h : H p = some (.lst xs))
    (ho : s.heap.get? p = some { cls := .type "list", data := .seq its.toArray n }) (hf : f { cls := .type "list", data := .seq its.toArray n } = { cls := .type "list", data := .seq its'.toArray n' }) (r : Vals ys its') (hz : ys.length ≤ sizeLine) (t : Nat) :
    Inv X pins σ (upd H p (.lst ys)) { s with heap := s.heap.update p f, toks := t } := by
  have e : (s.heap.update p f).get? p = some { cls := .type "list", data := .seq its'.toArray n' } := by
    rw [Heap.get?_update_self f ho (by rw [hf] <;> rfl), hf]
  refine I.write (x := p) (e := p) (by rw [h]; trivial) (.inl rfl) (fun b u hb q => (Heap.get?_update_other _ _ (Ne.symm hb)).trans q) ⟨_, e⟩ ?_
  exact ⟨hz, its', n', r, e⟩
def rSetL : V → V → V → Hp → (Hp → Prop) → Prop := fun o i v H Q => ∃ p xs k j, o = .ref p ∧ i = .int k ∧ H p = some (.lst xs) ∧ ixN xs.length k = some j ∧ Q (upd H p (.lst (xs.set j v)))
theorem set_list : PSet X rSetL := by
  intro pins s σ H o i v ov iv u Q I ro ri rv h
  obtain ⟨p, xs, k, j, rfl, rfl, hp, hj, q⟩ := h
  cases ro
  obtain ⟨t, rfl⟩ := ri
  obtain ⟨its, n, r, ho, hz⟩ := I.lst hp
  obtain ⟨h1, h2, h3, h4⟩ := ixN_seq hj
  have hl := r.length
  have hn := line63
  have I' : Inv X pins σ (upd H p (.lst (xs.set j v))) { s with heap := s.heap.update p (Obj.mapSeq (·.setIfInBounds j u)) } :=
    I.lstUpd hp ho (mapSeq_set its n j u) (r.set rv j) (by rw [List.length_set]; exact hz) s.toks
  by_cases h0 : 0 ≤ k
  · have hk : k.toNat = j := by
      rw [seqIndex_of h0 h4] at h1
      exact Option.some.inj h1
    exact PySem.W.ki_setAt ho h0 (by omega) (by rw [List.size_toArray, ← hl]; exact h4) (by rw [hk]; exact ⟨_, I', q⟩)
  · have hk : (k + (its.toArray.size : Int)).toNat = j := by
      rw [seqIndex_neg (by omega) h3] at h1
      rw [List.size_toArray, ← hl]
      exact Option.some.inj h1
    exact PySem.W.ki_setBack ho (by omega) (by rw [List.size_toArray, ← hl]; exact h3) (by omega) (by rw [hk]; exact ⟨_, I', q⟩)

theorem slice_bounds (lo hi : Option Int) (n : Nat) : (sliceBounds lo hi none n).1 = ((HT.sIx n 0 lo : Nat) : Int) ∧ (sliceBounds lo hi none n).2.1 = ((HT.sIx n n hi : Nat) : Int) ∧ (sliceBounds lo hi none n).2.2 = 1 := by
  refine ⟨?_, ?_, rfl⟩
  · cases lo with
    | none => simp [sliceBounds, HT.sIx]
    | some i =>
      simp only [sliceBounds, HT.sIx, Option.getD_none, show (1 : Int) > 0 by decide, if_true]
      by_cases h : i < 0
      · simp only [h, if_true] <;> omega
      · simp only [h, if_false] <;> omega
  · cases hi with
    | none => simp [sliceBounds, HT.sIx]
    | some i =>
      simp only [sliceBounds, HT.sIx, Option.getD_none, show (1 : Int) > 0 by decide, if_true]
      by_cases h : i < 0
      · simp only [h, if_true] <;> omega
      · simp only [h, if_false] <;> omega
theorem slicePick_cut (its : List Value) (lo hi : Option Int) : slicePick its.toArray lo hi none = ((its.drop (HT.sIx its.length 0 lo)).take (HT.sIx its.length its.length hi - HT.sIx its.length 0 lo)).toArray := by
  obtain ⟨h1, h2, h3⟩ := slice_bounds lo hi its.toArray.size
  unfold slicePick
  rw [h1, h2, h3]
  simp only [sliceRange_one, pick_run, List.size_toArray] <;> rfl
def rSlL (K : PySem.W.Frag) : V → Option Int → Option Int → Hp → VK → Prop := fun x lo hi H Q => ∃ a xs, x = .ref a ∧ SqL K H a xs ∧ ∀ p, H p = none → Q (.ref p) (upd H p (.lst (cutV xs lo hi)))
theorem sl_list : SlR X (rSlL X.K) := by
  intro pins s σ H x v vl vu lo hi sl Q I rx hs pl pu h
  obtain ⟨a, xs, rfl, hx, q⟩ := h
  cases rx
  obtain ⟨its, r, ht, hz⟩ := I.list hx
  have hlen := r.length
  refine ⟨"list", _, slot_list_getitem.lookup, ht.isList.typeIs, ?_⟩
  refine wpAny_getItem_list_slice ht.isList hs pl pu .none (by simp) ?_ (by rw [List.size_toArray] <;> omega)
  rw [slicePick_cut, ← hlen]
  refine ⟨.ref s.heap.objs.size, _, I.laid (t' := s.toks) (o := .lst (cutV xs lo hi)) (fun b ob q => Heap.get?_push_of_some _ q) (Nat.le_refl _) ?_, rfl, q _ (I.hok.fresh (Nat.le_refl _))⟩
  exact ⟨Nat.le_trans (cutV_length xs lo hi) hz, _, 0, (r.drop (HT.sIx xs.length 0 lo)).take (HT.sIx xs.length xs.length hi - HT.sIx xs.length 0 lo), Heap.get?_push_size _ rfl⟩

def flatV : V → Bool
  | .non => true
  | .bl _ => true
  | .int _ => true
  | .str _ => true
  | _ => false
def eqV : V → V → Bool
  | .non, .non => true
  | .bl a, .bl b => a == b
  | .bl a, .int b => (if a then 1 else 0) == b
  | .int a, .bl b => a == (if b then 1 else 0)
  | .int a, .int b => a == b
  | .str a, .str b => a == b
  | _, _ => false
def eqU (x : V) (u : Value) : Bool := match u with
  | .none => eqV .non x
  | .bool b => eqV (.bl b) x
  | .int i _ => eqV (.int i) x
  | .str z _ => eqV (.str z) x
  | _ => false
def inV (x : V) (xs : List V) : Bool := xs.any fun y => eqV y x
def rIn (K : PySem.W.Frag) (neg : Bool) : R2 := fun x y H Q => ∃ p xs, y = .ref p ∧ (SqL K H p xs ∨ SqT K H p xs) ∧ flatV x = true ∧ xs.all flatV = true ∧ Q (.bl (if neg then !inV x xs else inV x xs)) H
theorem call_len_seq : CallR X (.builtin "len") (fun xs H Q => ∃ p ys, xs = [.ref p] ∧ (SqL X.K H p ys ∨ SqT X.K H p ys) ∧ Q (.int ys.length) H) := by
  intro pins s σ H xs us Q I r h
  obtain ⟨p, ys, rfl, hq, q⟩ := h
  obtain ⟨u, rfl, rx⟩ := vals1 r
  cases rx
  have hn := line63
  rcases hq with hq | hq
  · obtain ⟨its, r', pl, hz⟩ := I.list hq
    have hlen := r'.length
    exact Calls.call_len_list pl.isList (by simp only [List.size_toArray] <;> omega) ⟨.int ys.length, H, I.tok _, ⟨s.toks + 1, by rw [List.size_toArray, hlen]⟩, q⟩
  · obtain ⟨its, r', pl, hz⟩ := I.tuple hq
    have hlen := r'.length
    exact len_tuple pl (by simp only [List.size_toArray] <;> omega) ⟨.int ys.length, H, I.tok _, ⟨s.toks + 1, by rw [List.size_toArray, hlen]⟩, q⟩
theorem call_list_of : CallR X (.type "list") (fun xs H Q => ∃ p ys, xs = [.ref p] ∧ (SqL X.K H p ys ∨ SqT X.K H p ys) ∧ ∀ l, H l = none → Q (.ref l) (upd H l (.lst ys))) := by
  intro pins s σ H xs us Q I r h
  obtain ⟨p, ys, rfl, hq, q⟩ := h
  obtain ⟨u, rfl, rx⟩ := vals1 r
  cases rx
  have fin : ∀ (its : List Value), Vals ys its → ys.length ≤ sizeLine → ∀ (h' : Heap) (c' : Nat), (∀ b o', s.heap.get? b = some o' → h'.get? b = some o') →
      h'.get? s.heap.objs.size = some { cls := .type "list", dict := none, data := .seq its.toArray c', slots := #[] } → EP X pins σ Q (.ref s.heap.objs.size) { s with heap := h' } := fun its r' hz h' c' kp e =>
    ⟨.ref s.heap.objs.size, _, I.laid (t' := s.toks) kp (Nat.le_refl _) (show ObjOk X.prog X.w _ h' _ (.lst ys) from ⟨hz, its, c', r', e⟩), rfl, q _ (I.hok.fresh (Nat.le_refl _))⟩
  rcases hq with hq | hq
  · obtain ⟨its, r', pl, hz⟩ := I.list hq
    have hlen := r'.length
    obtain ⟨o, ho, hc, n, hd⟩ := pl.isList
    exact call_list_seq p (.inl rfl) ho hc hd (fun h' c' kp e => fin its r' hz h' c' kp e) (by simp only [List.size_toArray] <;> omega)
  · obtain ⟨its, r', pl, hz⟩ := I.tuple hq
    have hlen := r'.length
    obtain ⟨o, ho, hc, n, hd⟩ := pl
    exact call_list_seq p (.inr rfl) ho hc hd (fun h' c' kp e => fin its r' hz h' c' kp e) (by simp only [List.size_toArray] <;> omega)
theorem call_tuple_of : CallR X (.type "tuple") (fun xs H Q => ∃ p ys, xs = [.ref p] ∧ ((SqL X.K H p ys ∧ ∀ l, H l = none → Q (.ref l) (upd H l (.tup ys))) ∨ (SqT X.K H p ys ∧ Q (.ref p) H))) := by
  intro pins s σ H xs us Q I r h
  obtain ⟨p, ys, rfl, h⟩ := h
  obtain ⟨u, rfl, rx⟩ := vals1 r
  cases rx
  rcases h with ⟨hq, q⟩ | ⟨hq, q⟩
  · obtain ⟨its, r', pl, hz⟩ := I.list hq
    have hlen := r'.length
    refine call_tuple_list pl.isList (fun h' kp => ?_) (by simp only [List.size_toArray] <;> omega)
    have I1 : Inv X pins σ H { s with heap := h' } := I.kept (t' := s.toks) kp
    have I2 : Inv X pins σ (upd H h'.objs.size (.tup ys)) { s with heap := h'.push { cls := .type "tuple", data := .seq its.toArray } } :=
      I1.laid (t' := s.toks) (fun b o e => Heap.get?_push_of_some _ e) (Nat.le_refl _) (show ObjOk X.prog X.w _ _ _ (.tup ys) from ⟨hz, its, r', IsTup.new _ _⟩)
    exact ⟨.ref h'.objs.size, _, I2, rfl, q _ (I1.hok.fresh (Nat.le_refl _))⟩
  · obtain ⟨its, r', pl, hz⟩ := I.tuple hq
    exact call_tuple_same pl ⟨.ref p, H, I, rfl, q⟩

def tyV (K : PySem.W.Frag) (T : String) (x : V) (H : Hp) : Prop := match x with
  | .str _ => T = "str"
  | .int _ => T = "int"
  | .ref p => (T = "list" ∧ ∃ xs, SqL K H p xs) ∨ (T = "tuple" ∧ ∃ o, K.lookup p = some o ∧ o.cls = .type "tuple" ∧ o.dict = none) ∨
      (T = "dict" ∧ ((∃ kvs, H p = some (.dK kvs)) ∨ ∃ kvs, H p = some (.dT kvs))) ∨ (T = "set" ∧ ∃ S n, H p = some (.set S n))
  | _ => False
theorem tyV_is {pins : List (Addr × Obj)} {σ : St} {H : Hp} {s : Shared} {T : String} {x : V} {v : Value} (I : Inv X pins σ H s) (r : RelV x v) (ty : tyV X.K T x H) :
    s.TypeIs v T ∧ ∀ a, v = .ref a → ∃ ob, s.heap.get? a = some ob ∧ ob.dict = none := by
  cases x with
  | str z =>
    obtain ⟨t, rfl⟩ := r
    cases (show T = "str" from ty)
    exact ⟨typeIs_str s z t, fun _ e => nomatch e⟩
  | int i =>
    obtain ⟨t, rfl⟩ := r
    cases (show T = "int" from ty)
    exact ⟨typeIs_int s i t, fun _ e => nomatch e⟩
  | ref p =>
    cases r
    rcases ty with ⟨rfl, xs, hq⟩ | ⟨rfl, o, hk, hc, hd⟩ | ⟨rfl, hk⟩ | ⟨rfl, S, n, hk⟩
    · obtain ⟨its, _, pl, _⟩ := I.list hq
      refine ⟨pl.isList.typeIs, fun a e => ?_⟩
      cases e
      obtain ⟨o, n, e, c, hd, _⟩ := pl
      exact ⟨o, e, hd⟩
    · refine ⟨⟨o, I.kIn p o hk, hc⟩, fun a e => ?_⟩
      cases e
      exact ⟨o, I.kIn _ o hk, hd⟩
    · have z : ∃ o, s.heap.get? p = some o ∧ o.ExactDict := by
        rcases hk with ⟨kvs, hk⟩ | ⟨kvs, hk⟩
        · obtain ⟨_, _, _, _, o, _, _, e, ex, _⟩ := I.hok p _ hk
          exact ⟨o, e, ex⟩
        · obtain ⟨_, _, _, _, o, _, _, e, ex, _⟩ := I.hok p _ hk
          exact ⟨o, e, ex⟩
      obtain ⟨o, e, ex⟩ := z
      refine ⟨⟨o, e, ex.1⟩, fun a e2 => ?_⟩
      cases e2
      exact ⟨o, e, ex.2.1⟩
    · obtain ⟨o, _, _, _, e, ex, _⟩ := I.hok p _ hk
      refine ⟨⟨o, e, ex.1⟩, fun a e2 => ?_⟩
      cases e2
      exact ⟨o, e, ex.2.1⟩
  | _ => exact False.elim ty
def tBM0 (K : PySem.W.Frag) (T : String) (r : V → List V → Hp → VK → Prop) (to : TE) : TE := fun σ H Q => to σ H fun x H1 => tyV K T x H1 ∧ r x [] H1 Q
def tBM (K : PySem.W.Frag) (T : String) (r : V → List V → Hp → VK → Prop) (to : TE) (t : TA) : TE := fun σ H Q => to σ H fun x H1 => tyV K T x H1 ∧ t σ H1 fun xs H2 => r x xs H2 Q
variable {o e : Expr} {es : List Expr} {to : TE} {t : TA} {name : Str} {apos cpos : Pos} {T id : String} {r : V → List V → Hp → VK → Prop}
theorem pe_bm0 (pa : PlainAttrs T) (slot : Slot T name id) (hty : typeOf (.builtin id) = pure (.type "method_descriptor")) (hm : MtR X id r) (ho : PE X o to)
    (hbase : attributeBase o name X.env (eval o X.env) = eval o X.env := by rfl) (hline : (apos.endLine == cpos.line) = true := by rfl) : PE X (.Call (.Attribute o name apos) [] [] cpos) (tBM0 X.K T r to) := by
  intro pins s σ H Q I h
  refine wpAny_Call_method0_late hbase hline (thn (ho pins s σ H _ I h) fun v s1 ⟨x, H1, I1, r1, ty, q1⟩ => ?_)
  obtain ⟨h1, h2⟩ := tyV_is I1 r1 ty
  exact ⟨T, id, pa, slot, hty, h1, h2, Calls.callWith_builtin rfl (PySem.evalArgs_none (hm pins s1 σ H1 x [] v [] Q I1 r1 .nil q1))⟩
theorem pe_bm (pa : PlainAttrs T) (slot : Slot T name id) (hty : typeOf (.builtin id) = pure (.type "method_descriptor")) (hm : MtR X id r) (ho : PE X o to) (ha : PA X (e :: es) t)
    (hbase : attributeBase o name X.env (eval o X.env) = eval o X.env := by rfl)
    (hfew : ((backTo cpos (starEach (e :: es) X.env)).all (fun x => !x.1) && (backToKw cpos (keywordEach [] X.env)).all (fun x => x.1.isSome)
      && decide ((e :: es).length + ([] : List Keyword).length + (if ([] : List Keyword).isEmpty then 0 else 1) < 30)) = true := by rfl)
    (hline : (apos.endLine == cpos.line) = true := by rfl) (hs : starEach (e :: es) X.env = (false, eval e X.env) :: starEach es X.env := by rfl) (hplain : (backTo cpos (starEach es X.env)).any (·.1) = false := by rfl) :
    PE X (.Call (.Attribute o name apos) (e :: es) [] cpos) (tBM X.K T r to t) := by
  intro pins s σ H Q I h
  refine wpAny_Call_method_late hbase hfew hline rfl (thn (ho pins s σ H _ I h) fun v s1 ⟨x, H1, I1, r1, ty, q1⟩ => ?_)
  obtain ⟨h1, h2⟩ := tyV_is I1 r1 ty
  refine ⟨T, id, pa, slot, hty, h1, h2, ?_⟩
  have hA := ha cpos pins s1 σ H1 _ I1 q1
  rw [hs] at hA ⊢
  refine Calls.callWith_builtin (by show (false || (backTo cpos (starEach es X.env)).any (·.1)) = false; rw [hplain] <;> rfl) (Calls.evalArgs_plain ?_)
  exact thn hA fun us s2 ⟨vs, H2, I2, r2, q2⟩ => hm pins s2 σ H2 x vs v us Q I2 r1 r2 q2
end
end L2

namespace L2
open PySem PySem.Spec PyProof.Rows

def MtM (X : Cx) (id : String) (r : V → List V → Hp → VK → Prop) : Prop :=
  ∀ (pins : List (Addr × Obj)) (s : Shared) (σ : St) (H : Hp) (x : V) (xs : List V) (v : Value) (us : List Value) (Q : VK), Inv X pins σ H s → RelV x v → Vals xs us → r x xs H Q →
    wpAny (model X.prog X.w) X.A (call (.builtin id) (v :: us)) (EP X pins σ Q) X.xe s

theorem Vals.one : ∀ {x : V} {us : List Value}, Vals [x] us → ∃ u, us = [u] ∧ RelV x u
  | _, _, .cons r .nil => ⟨_, rfl, r⟩
theorem Vals.two : ∀ {x y : V} {us : List Value}, Vals [x, y] us → ∃ u v, us = [u, v] ∧ RelV x u ∧ RelV y v
  | _, _, _, .cons r (.cons q .nil) => ⟨_, _, rfl, r, q⟩
theorem Vals.zero : ∀ {us : List Value}, Vals [] us → us = []
  | _, .nil => rfl
theorem Vals.dropLast {xs : List V} {us : List Value} (h : Vals xs us) : Vals xs.dropLast us.dropLast := by
  induction h with
  | nil => exact .nil
  | cons r t ih =>
    cases t with
    | nil => exact .nil
    | cons q t' => exact .cons r ih
theorem Vals.eraseIdx : ∀ {xs : List V} {us : List Value} (i : Nat), Vals xs us → Vals (xs.eraseIdx i) (us.eraseIdx i)
  | _, _, _, .nil => .nil
  | _, _, 0, .cons _ t => t
  | _, _, i + 1, .cons r t => .cons r (Vals.eraseIdx i t)
theorem Vals.reverse {xs : List V} {us : List Value} (h : Vals xs us) : Vals xs.reverse us.reverse := by
  induction h with
  | nil => exact .nil
  | cons r t ih => rw [List.reverse_cons, List.reverse_cons]; exact Vals.append ih (.cons r .nil)
theorem Vals.rep {xs : List V} {us : List Value} (h : Vals xs us) : ∀ k : Nat, Vals (List.replicate k xs).flatten (List.replicate k us).flatten
  | 0 => .nil
  | k + 1 => by
    rw [List.replicate_succ, List.replicate_succ, List.flatten_cons, List.flatten_cons]
    exact Vals.append h (Vals.rep h k)
theorem erase_last {α : Type} (l : List α) : l.eraseIdx (l.length - 1) = l.dropLast := by
  induction l with
  | nil => rfl
  | cons a r ih =>
    cases r with
    | nil => rfl
    | cons b r =>
      have e : (a :: b :: r).length - 1 = ((b :: r).length - 1) + 1 := by
        have h1 : (a :: b :: r).length = r.length + 2 := rfl
        have h2 : (b :: r).length = r.length + 1 := rfl
        omega
      rw [e, List.eraseIdx_cons_succ, ih]
      all_goals rfl
theorem len_erase {α : Type} : ∀ (l : List α) (i : Nat), (l.eraseIdx i).length ≤ l.length
  | [], _ => Nat.le_refl _
  | _ :: _, 0 => Nat.le_succ _
  | _ :: r, i + 1 => Nat.succ_le_succ (len_erase r i)
theorem foldl_rep (its : List Value) : ∀ (k : Nat) (acc : List Value),
    List.foldl (fun x1 x2 => x1 ++ x2) acc.toArray (List.replicate k its.toArray) = (acc ++ (List.replicate k its).flatten).toArray
  | 0, acc => by simp
  | k + 1, acc => by
    have e : acc.toArray ++ its.toArray = (acc ++ its).toArray := by simp
    have e2 : (acc ++ its) ++ (List.replicate k its).flatten = acc ++ (List.replicate (k + 1) its).flatten := by
      rw [List.replicate_succ, List.flatten_cons, List.append_assoc]
    rw [← e2, ← foldl_rep its k (acc ++ its), ← e, List.replicate_succ, List.foldl_cons]

section
variable {X : Cx} {pins : List (Addr × Obj)} {σ : St} {H : Hp} {s : Shared} {l b : Addr} {xs ys zs : List V}

theorem Inv.lset {its its' : List Value} {n : Nat} {f : Array Value → Array Value} {t' : Nat} (I : Inv X pins σ H s) (hH : H l = some (.lst xs))
    (e : s.heap.get? l = some { cls := .type "list", data := .seq its.toArray n }) (hf : f its.toArray = its'.toArray) (hv : Vals ys its') (hz : ys.length ≤ sizeLine) :
    Inv X pins σ (upd H l (.lst ys)) { s with heap := s.heap.update l (Obj.mapSeq f), toks := t' } := by
  have q := PySem.IsL.update e f
  rw [hf] at q
  refine I.write (x := l) (e := l) (by rw [hH]; exact trivial) (.inl rfl) (fun b' u hb hu => (Heap.get?_update_other s.heap (Obj.mapSeq f) (Ne.symm hb)).trans hu) ⟨_, q⟩ ?_
  exact ⟨hz, its', _, hv, q⟩
theorem Inv.lnew {its : List Value} {t' : Nat} (I : Inv X pins σ H s) (hv : Vals ys its) (hz : ys.length ≤ sizeLine) :
    Inv X pins σ (upd H s.heap.objs.size (.lst ys)) { s with heap := s.heap.push { cls := .type "list", data := .seq its.toArray }, toks := t' } :=
  I.laid (fun _ _ q => Heap.get?_push_of_some _ q) (Nat.le_refl _) ⟨hz, its, 0, hv, Heap.get?_push_size _ rfl⟩
theorem Inv.fresh (I : Inv X pins σ H s) : H s.heap.objs.size = none := I.hok.fresh (Nat.le_refl _)
theorem Inv.lstM (I : Inv X pins σ H s) (hH : H l = some (.lst xs)) : xs.length ≤ sizeLine ∧ ∃ (its : List Value) (n : Nat), Vals xs its ∧ xs.length = its.length ∧ s.heap.get? l = some { cls := .type "list", data := .seq its.toArray n } := by
  obtain ⟨z, its, n, r, e⟩ := I.hok l _ hH
  exact ⟨z, its, n, r, r.length, e⟩

theorem notLongL {n : Nat} (h : n ≤ sizeLine) : Builtin.List.listTooLong n = false := by
  unfold Builtin.List.listTooLong
  exact decide_eq_false (by omega)
end

section
variable {X : Cx}

def rAppend : V → List V → Hp → VK → Prop := fun x vs H Q => ∃ l xs y, x = .ref l ∧ vs = [y] ∧ H l = some (.lst xs) ∧ xs.length < sizeLine ∧ Q .non (upd H l (.lst (xs ++ [y])))
theorem mt_append : MtM X "list.append" rAppend := by
  intro pins s σ H x vs v us Q I rx rv h
  obtain ⟨l, xs, y, rfl, rfl, hH, hz, q⟩ := h
  cases rx
  obtain ⟨u, rfl, ru⟩ := rv.one
  obtain ⟨z, its, n, r, hl, e⟩ := I.lstM hH
  refine call_meets F.slot_list_append ⟨_, e, rfl⟩ F.entry_list_append (F.args_list_append_2 _ _) (PySem.list_append l its.toArray n u (by rw [List.size_toArray]; omega)) ⟨e, ?_⟩
  refine ⟨.non, _, I.lset (its' := its ++ [u]) hH e (by simp) (r.append (.cons ru .nil)) ?_, rfl, q⟩
  rw [List.length_append, List.length_singleton]
  omega

def rExtend : V → List V → Hp → VK → Prop := fun x vs H Q => ∃ l b xs zs, x = .ref l ∧ vs = [.ref b] ∧ H l = some (.lst xs) ∧ H b = some (.lst zs) ∧ xs.length + zs.length ≤ sizeLine ∧ Q .non (upd H l (.lst (xs ++ zs)))
theorem mt_extend : MtM X "list.extend" rExtend := by
  intro pins s σ H x vs v us Q I rx rv h
  obtain ⟨l, b, xs, zs, rfl, rfl, hH, hB, hz, q⟩ := h
  cases rx
  obtain ⟨u, rfl, ru⟩ := rv.one
  cases ru
  obtain ⟨z, its, n, r, hl, e⟩ := I.lstM hH
  obtain ⟨z2, its2, n2, r2, hl2, e2⟩ := I.lstM hB
  have hsz : its.toArray.size + its2.toArray.size ≤ sizeLine := by rw [List.size_toArray, List.size_toArray]; omega
  have hlong : ¬ (!its.toArray.isEmpty && Builtin.List.listTooLong (its.toArray.size + its2.toArray.size)) = true := by
    rw [notLongL hsz, Bool.and_false]
    exact Bool.false_ne_true
  refine call_meets F.slot_list_extend ⟨_, e, rfl⟩ F.entry_list_extend (F.args_list_extend_2 _ _)
    (AutoSeq1.list_extend_list_list_0 l its.toArray n b its2.toArray n2 hlong (by rw [List.size_toArray]; omega) (by omega)) ⟨e, e2, ?_⟩
  refine ⟨.non, _, I.lset (its' := its ++ its2) hH e (by simp) (r.append r2) ?_, rfl, q⟩
  rw [List.length_append]
  omega

def rPop : V → List V → Hp → VK → Prop := fun x vs H Q => ∃ l xs y, x = .ref l ∧ vs = [] ∧ H l = some (.lst xs) ∧ xs[xs.length - 1]? = some y ∧ Q y (upd H l (.lst xs.dropLast))
theorem mt_pop : MtM X "list.pop" rPop := by
  intro pins s σ H x vs v us Q I rx rv h
  obtain ⟨l, xs, y, rfl, rfl, hH, hy, q⟩ := h
  cases rx
  have hus := rv.zero
  subst hus
  obtain ⟨z, its, n, r, hl, e⟩ := I.lstM hH
  obtain ⟨u, hu, ru⟩ := r.get hy
  have hy' : its.toArray[its.toArray.size - 1]? = some u := by
    show its.toArray[its.length - 1]? = some u
    rw [← Array.getElem?_toList, ← hl]
    exact hu
  refine call_meets F.slot_list_pop ⟨_, e, rfl⟩ F.entry_list_pop (F.args_list_pop_1 _) (MeetsSeq.list_pop_last l its.toArray n u hy' (by rw [List.size_toArray]; omega)) ⟨e, ?_⟩
  refine ⟨y, _, I.lset (its' := its.dropLast) hH e ?_ r.dropLast ?_, ru, q⟩
  · show its.toArray.eraseIdxIfInBounds (its.toArray.size - 1) = its.dropLast.toArray
    rw [List.size_toArray, List.eraseIdxIfInBounds_toArray, erase_last]
  · rw [List.length_dropLast]
    omega

def rPopAt : V → List V → Hp → VK → Prop := fun x vs H Q => ∃ l xs i k y, x = .ref l ∧ vs = [.int i] ∧ H l = some (.lst xs) ∧ -(2 ^ 63) ≤ i ∧ i < 2 ^ 63 ∧ seqIndex? i xs.length = some k ∧ xs[k]? = some y ∧ Q y (upd H l (.lst (xs.eraseIdx k)))
theorem mt_popAt : MtM X "list.pop" rPopAt := by
  intro pins s σ H x vs v us Q I rx rv h
  obtain ⟨l, xs, i, k, y, rfl, rfl, hH, h1, h2, hk, hy, q⟩ := h
  cases rx
  obtain ⟨u, rfl, ru⟩ := rv.one
  obtain ⟨t, rfl⟩ := ru
  obtain ⟨z, its, n, r, hl, e⟩ := I.lstM hH
  obtain ⟨w, hw, rw'⟩ := r.get hy
  refine call_meets F.slot_list_pop ⟨_, e, rfl⟩ F.entry_list_pop (F.args_list_pop_2 _ _)
    (MeetsSeq.list_pop_at l its.toArray n i t k w (fitsIndex_both h1 h2) (by rw [List.size_toArray, ← hl]; exact hk) (by rw [← Array.getElem?_toList]; exact hw) (by rw [List.size_toArray]; omega)) ⟨e, ?_⟩
  refine ⟨y, _, I.lset (its' := its.eraseIdx k) hH e ?_ (r.eraseIdx k) ?_, rw', q⟩
  · show its.toArray.eraseIdxIfInBounds k = (its.eraseIdx k).toArray
    rw [List.eraseIdxIfInBounds_toArray]
  · have := len_erase xs k
    omega

def rReverse : V → List V → Hp → VK → Prop := fun x vs H Q => ∃ l xs, x = .ref l ∧ vs = [] ∧ H l = some (.lst xs) ∧ Q .non (upd H l (.lst xs.reverse))
def rClear : V → List V → Hp → VK → Prop := fun x vs H Q => ∃ l xs, x = .ref l ∧ vs = [] ∧ H l = some (.lst xs) ∧ Q .non (upd H l (.lst []))
def rCat : R2 := fun x y H Q => ∃ l b xs zs, x = .ref l ∧ y = .ref b ∧ H l = some (.lst xs) ∧ H b = some (.lst zs) ∧ xs.length + zs.length ≤ sizeLine ∧ ∀ p, H p = none → Q (.ref p) (upd H p (.lst (xs ++ zs)))
theorem op_cat : OpR X (binaryOp .Add) rCat := by
  intro pins s σ H x y v u Q I rx ry h
  obtain ⟨l, b, xs, zs, rfl, rfl, hH, hB, hz, q⟩ := h
  cases rx
  cases ry
  obtain ⟨z, its, n, r, hl, e⟩ := I.lstM hH
  obtain ⟨z2, its2, n2, r2, hl2, e2⟩ := I.lstM hB
  refine PySem.P.add_list e e2 ?_ (by rw [List.size_toArray, List.size_toArray]; omega)
  have ea : its.toArray ++ its2.toArray = (its ++ its2).toArray := by simp
  rw [ea]
  exact ⟨.ref _, _, I.lnew (t' := s.toks) (r.append r2) (by rw [List.length_append]; omega), rfl, q _ I.fresh⟩
def rRep : R2 := fun x y H Q => ∃ l k xs, x = .ref l ∧ y = .int k ∧ H l = some (.lst xs) ∧ -(2 ^ 63) ≤ k ∧ k < 2 ^ 63 ∧ xs.length * k.toNat ≤ sizeLine ∧
  ∀ p, H p = none → Q (.ref p) (upd H p (.lst (List.replicate k.toNat xs).flatten))
theorem len_rep {α : Type} (xs : List α) (k : Nat) : (List.replicate k xs).flatten.length = k * xs.length := by
  induction k with
  | zero => simp
  | succ k ih => rw [List.replicate_succ, List.flatten_cons, List.length_append, ih, Nat.succ_mul, Nat.add_comm]
theorem op_rep : OpR X (binaryOp .Mult) rRep := by
  intro pins s σ H x y v u Q I rx ry h
  obtain ⟨l, k, xs, rfl, rfl, hH, h1, h2, hz, q⟩ := h
  cases rx
  obtain ⟨t, rfl⟩ := ry
  obtain ⟨z, its, n, r, hl, e⟩ := I.lstM hH
  have hlen : its.toArray.size * k.toNat ≤ sizeLine := by rw [List.size_toArray, ← hl]; exact hz
  have hcap : ¬ its.toArray.size * k.toNat > (2 ^ 63 - 1) / 8 := by
    have : (sizeLine : Nat) ≤ (2 ^ 63 - 1) / 8 := by decide
    omega
  have hfit : ¬ (!Builtin.List.listFitsIndex k) = true := by
    rw [fitsIndex_both h1 h2]
    exact Bool.false_ne_true
  have hlong : ¬ Builtin.List.listTooLong (its.toArray.size * k.toNat) = true := by
    rw [notLongL hlen]
    exact Bool.false_ne_true
  have hnew : List.foldl (fun x1 x2 => x1 ++ x2) #[] (List.replicate (if its.toArray.isEmpty = true then 0 else k.toNat) its.toArray) = (List.replicate k.toNat its).flatten.toArray := by
    have f0 : ∀ m : Nat, List.foldl (fun x1 x2 => x1 ++ x2) #[] (List.replicate m its.toArray) = (List.replicate m its).flatten.toArray := fun m => by
      have := foldl_rep its m []
      rw [List.nil_append] at this
      exact this
    rw [f0]
    cases its with
    | nil => simp
    | cons a r' => rw [if_neg (by simp)]
  refine wpAny_binaryOp_repeat_ref (T := "list") (U := "int") (by decide) ⟨_, e, rfl⟩ (fun s' => typeIs_int s' k t) noFill_list_mul F.fills_int_mul F.slot_int_rmul repeat_list F.slot_int_index.lookup
    (call_meets F.slot_int_rmul (typeIs_int s k t) F.entry_int_rmul (F.args_int_rmul_2 _ _) (int___rmul___int_list k t l its.toArray n)
      ⟨e, rfl, ⟨_, e, rfl⟩, call_meets F.slot_list_mul ⟨_, e, rfl⟩ F.entry_list_mul (F.args_list_mul_2 _ _) (AutoListH.list___mul___list_int_3 l its.toArray n k t hfit hcap hlong) ⟨e, ?_⟩⟩)
  rw [hnew]
  exact ⟨.ref _, _, I.lnew (t' := s.toks) (r.rep k.toNat) (by rw [len_rep, Nat.mul_comm]; exact hz), rfl, q _ I.fresh⟩

end

section
variable {prog : Program} {w : World} {A : Around} {E : Value → Shared → Prop} {s : Shared}
end

section
variable {X : Cx}
end
end L2

namespace Att
open PySem PySem.W PySem.Calls PyProof.Rows

theorem ints_of_wellAll {P : Params} {h : Heap} : ∀ (ns : List Int) (vs : List Value), WellAll P h vs (ns.map WData.int) → IntsAre vs ns := by
  intro ns
  induction ns with
  | nil =>
    intro vs w
    rw [List.map_nil] at w
    cases w
    exact .nil
  | cons n ns ih =>
    intro vs w
    rw [List.map_cons] at w
    cases w with
    | cons a b =>
      cases a
      exact .cons _ _ (ih _ b)

theorem script_of {l : OpenLaw} {n : Nat} (hn : l.most = some n) {P : Params} {h : Heap} {args : List WData} {vals : List Value}
    (hpre : l.row.toRowW.claim.pre args = true) (hwl : WellAll P h vals args) :
    ∃ a vs ns, vals = [Value.ref a] ∧ args = [WData.list (ns.map WData.int)] ∧ h.get? a = some { cls := .type "list", data := .seq vs.toArray } ∧ IntsAre vs ns ∧ ns.length ≤ n := by
  have hsh : WShape.hasAll [] args [.list .int] = true := (pre_splitW hpre).1
  have hc : l.pre.holds [] { args := args } = true := (pre_splitW hpre).2
  obtain ⟨d, r, rfl, h1, h2⟩ := hasAllW_cons hsh
  obtain rfl := hasAllW_nil h2
  obtain ⟨xs, rfl, h3⟩ := hasW_list h1
  obtain ⟨ns, rfl⟩ := items_int h3
  have hlen : ns.length ≤ n := by
    unfold OpenLaw.pre at hc
    have h4 : (WTm.not (.lt (.lit (.int (n : Int))) (.len (.arg 0)))).holds [] { args := [.list (ns.map .int)] } = true := by
      have h4 := (holds_andW hc).1
      rw [hn] at h4
      exact h4
    have h5 := condW_of h4 (w_not (w_lt w_lit (w_len_list (w_arg rfl))))
    rw [List.length_map] at h5
    refine Nat.le_of_not_lt fun q => ?_
    have q' : (n : Int) < ((ns.length : Nat) : Int) := by omega
    first
      | (rw [decide_eq_true q'] at h5; exact absurd h5 (by decide))
      | (simp at h5; omega)
  cases hwl with
  | cons w1 w2 =>
    cases w2
    cases w1 with
    | list ho hall => exact ⟨_, _, ns, rfl, rfl, ho, ints_of_wellAll ns _ hall, hlen⟩

theorem post_true (l : OpenLaw) (args : List WData) : l.row.toRowW.claim.post args (.bool true) args = true :=
  postW_of (r := l.row.toRowW) (X := (true == true))
    (show WShape.has [] (.bool true) .bool = true by first | rfl | decide | simp [WShape.has, WShape.arms, WShape.armsAll])
    (show (WTm.eq .res (.lit (.bool true))).value [] { args := args, res := some (.bool true), after := args } = some (.bool (true == true)) from w_eq_bool (w_res rfl) w_lit) rfl

theorem attach_call {l : OpenLaw} {n : Nat} {q : Program} {loose : List Str} {XP : (Str → Option Value) → Heap → Prop} {YP : World → Heap → Prop} {d : DefRec}
    (hn : l.most = some n) (hdf : d.params.defaults = [])
    (call : ∀ (w : World) (s₀ s₁ : Shared) (mg mb : Str → Option Value) (fa : Addr) (o : Obj) (pm cd doc : Value) (a : Addr) (vs : List Value) (ns : List Int),
      Ground q loose [] XP w s₀ mg mb s₁.heap → YP w s₁.heap →
      s₁.heap.get? fa = some o → o.data = .func (docDef d.name d.params d.body d.scope pm cd doc) → s₁.heap.CodeRec cd d.name → mg d.name = some (.ref fa) →
      s₁.heap.get? a = some { cls := .type "list", data := .seq vs.toArray } → IntsAre vs ns → ns.length ≤ n → s₁.gens = #[] →
      codeAny (model l.prog w) callerA (.call (.ref fa) ⟨[.ref a], []⟩) (fun r s' => r = .ok (.ret (.bool true)) ∧ OldK s₁.heap s'.heap ∧ s'.os = s₁.os ∧ AllBare s'.gens) s₁) :
    WalkO q loose XP YP l.row.toRowW d [] (fun f vs => PySem.call f vs) := by
  intro w s₀ s₁ mg mb G Y fa o pm cd doc dV kV ho hd hcd hD hmg hg args vals as hpre hlay hrd hwl hlo
  obtain rfl : dV = .none := Dflts.none hD hdf
  obtain rfl : kV = .none := Dflts.noKw hD
  obtain ⟨a, vs, ns, rfl, rfl, hobj, hints, hlen⟩ := script_of hn hpre hwl
  refine enter_call (codeAny_mono (call w s₀ s₁ mg mb fa o pm cd doc a vs ns G Y ho (fd_plain hd) hcd hmg hobj hints hlen hg) fun r s' hq => ?_)
  obtain ⟨rfl, h2, h3, h4⟩ := hq
  exact ⟨.inl ⟨.bool true, .bool true, [], rfl, fun _ => rfl, .bool true, post_true l _, fun _ => ⟨List.Pairwise.nil, fun _ hm => (nomatch hm)⟩⟩, h2, h3, h4⟩

section
variable {prog : Program} {w : World} {A : Around} {E : Value → Shared → Prop} {s : Shared} {K : Frag}

def noObjs (h : Heap) : Heap := { h with objs := #[] }
def ledger (h : Heap) (L d : Addr) : List (Addr × Obj) := (List.range h.objs.size).filterMap fun a => if a = L ∨ a = d then none else (h.get? a).map fun o => (a, o)
end
end Att

namespace L2
open PySem PySem.Spec PyProof.Rows

theorem vals_ints : ∀ {vs : List Value} {ns : List Int}, IntsAre vs ns → Vals (ns.map V.int) vs
  | _, _, .nil => .nil
  | _, _, .cons n t h => .cons ⟨t, rfl⟩ (vals_ints h)

def Only (H : Hp) : Prop := ∀ b, H b = none ∨ ∃ o xs, H b = some (.frz o (.lst xs))

theorem law_call {P : Program} {w : World} {K : PySem.W.Frag} {mg mb : Str → Option Value} {CX : CXT} {k : Nat} {fa a : Addr} {fd : FuncData} {x : Str} {sp : Sp} {s₁ : Shared} {vs : List Value} {ns : List Int}
    (KX : K.In s₁.heap) (hns : s₁.heap.Ns mainGlobals mg) (hb : s₁.heap.Ns builtinsNs mb) (hbb : ∀ x : Str, x ≠ "__name__" → mb x = bootBuiltins x) (hlim : s₁.heap.NoLimit) (hg : s₁.gens = #[])
    (ha : s₁.heap.get? a = some { cls := .type "list", data := .seq vs.toArray }) (hi : IntsAre vs ns) (hl : ns.length ≤ sizeLine) (hr : Room k callerA)
    (F : ∀ base : Heap, K.In base → base.Ns mainGlobals mg → FnOk P w K mg base CX k fa fd [x] sp) (hbind : ∀ (s : Shared) (u : Value), BindsTo s fd ⟨[u], []⟩ [(x, u)])
    (hsp : ∀ H : Hp, Only H → SqL K H a (ns.map V.int) → sp [.ref a] H (fun v _ => v = .bl true) fun _ _ _ => False)
    (hCX : ∀ H e s', CX [] H s₁ (fun _ _ _ => False) e s' → False) :
    codeAny (model P w) callerA (.call (.ref fa) ⟨[.ref a], []⟩) (fun r s' => r = .ok (.ret (.bool true)) ∧ OldK s₁.heap s'.heap ∧ s'.os = s₁.os ∧ AllBare s'.gens) s₁ := by
  have rv := vals_ints hi
  have lenV := hi.length
  -- from an abstract heap in which nothing but the script may be tracked
  have core : ∀ H : Hp, Only H → SqL K H a (ns.map V.int) → HOk P w H s₁.heap → (∀ b, H b ≠ none → b = a) → (H a ≠ none → K.lookup a = none) →
      codeAny (model P w) callerA (.call (.ref fa) ⟨[.ref a], []⟩) (fun r s' => r = .ok (.ret (.bool true)) ∧ OldK s₁.heap s'.heap ∧ s'.os = s₁.os ∧ AllBare s'.gens) s₁ := by
    intro H hO hS hok hA hK
    have base_of : ∀ {b : Addr} {o : Obj}, s₁.heap.get? b = some o → H b = none → (hidT s₁.heap H).get? b = some o := fun e n => hidT_get e n
    have noA : ∀ {b : Addr} {o : Obj} {es : Array DictEntry} {ep : Nat}, s₁.heap.get? b = some o → o.data = .dict es ep → H b = none := fun {b o es ep} e d => by
      cases q : H b with
      | none => rfl
      | some u =>
        have e' : b = a := hA b (by rw [q]; simp)
        subst e'
        rw [ha] at e; cases e
        have d' : Data.seq vs.toArray _ = Data.dict es ep := d
        cases d'
    have nsK : ∀ {b : Addr} {m : Str → Option Value}, s₁.heap.Ns b m → (hidT s₁.heap H).Ns b m := fun {b m} ⟨o, es, ep, e, d, r⟩ => ⟨o, es, ep, base_of e (noA e d), d, r⟩
    have hKb : K.In (hidT s₁.heap H) := fun b o e => base_of (KX b o e) (by
      cases q : H b with
      | none => rfl
      | some u =>
        have e' : b = a := hA b (by rw [q]; simp)
        subst e'
        rw [hK (by rw [q]; simp)] at e; cases e)
    have hM : Mod K mg (hidT s₁.heap H) := ⟨hKb, nsK hns, ⟨mb, nsK hb, hbb⟩, let ⟨mc, h1, h2⟩ := hlim; ⟨mc, nsK h1, h2⟩⟩
    have e0 : Env0 P w K mg (hidT s₁.heap H) callerA [] s₁ H := ⟨rfl, hM, fun b o e => of_hidT e, Nat.le_of_eq (hidT_size _ _), trivial, fun b hb => absurd (show b ∈ ([] : List Addr) from hb) (by simp), hok, .of_eq hg⟩
    refine codeAny_mono ((F _ hKb (nsK hns)).run callerA [] s₁ H ⟨[.ref a], []⟩ [.ref a] [.ref a] _ _ hr e0 (hbind s₁ (.ref a)) (.cons rfl .nil) (hsp H hO hS)) fun r s' h => ?_
    cases r with
    | error e => exact (hCX H e s' h).elim
    | ok fl =>
      cases fl with
      | next => exact False.elim h
      | brk => exact False.elim h
      | cont => exact False.elim h
      | ret u =>
        obtain ⟨v, H', os, bare, un, hok', r', q⟩ := h
        have q' : v = .bl true := q
        subst q'
        obtain rfl : u = Value.bool true := r'
        refine ⟨rfl, OldK.of_keep fun b o e => ?_, os, bare⟩
        cases q : H b with
        | none => exact un.keep b o e q (by intro z; exact absurd (show b ∈ ([] : List Addr) from z) (by simp)) (by simp)
        | some u =>
          rcases hO b with z | ⟨ob, xs, z⟩
          · rw [q] at z; cases z
          · have z2 := un.frzs b ob _ z
            obtain ⟨e1, _⟩ := hok b _ z
            obtain ⟨e2, _⟩ := hok' b _ z2
            rw [e] at e1; cases e1
            exact e2
  cases hk : K.lookup a with
  | some o =>
    -- the script is one of the module's own objects
    have e := KX a o hk
    rw [ha] at e
    cases e
    refine core (fun _ => none) (fun _ => .inl rfl) (.inr ⟨_, vs.toArray, _, hk, rfl, rfl, rfl, by rw [List.size_toArray, lenV]; exact hl, by simpa using rv⟩) (fun b u z => by have z' : (none : Option HO) = some u := z; cases z') (fun b z => absurd rfl z) fun z => absurd rfl z
  | none =>
    refine core (fun b => if b = a then some (.frz { cls := .type "list", data := .seq vs.toArray } (.lst (ns.map V.int))) else none) (fun b => ?_) (.inl (.inr ⟨{ cls := .type "list", data := .seq vs.toArray }, if_pos rfl⟩)) (fun b u z => ?_) (fun b z => ?_) fun _ => hk
    · by_cases hb : b = a
      · exact .inr ⟨_, _, if_pos hb⟩
      · exact .inl (if_neg hb)
    · by_cases hb : b = a
      · have z' := (if_pos hb).symm.trans z
        cases z'
        subst hb
        exact ⟨ha, by rw [List.length_map]; exact hl, vs, _, rv, ha⟩
      · have z' := (if_neg hb).symm.trans z
        cases z'
    · by_cases hb : b = a
      · exact hb
      · exact absurd (if_neg hb) z
end L2

namespace L2
open PySem PySem.Spec PyProof.Rows

abbrev KOf {K : PySem.W.Frag} {h : Heap} (_ : K.In h) : PySem.W.Frag := K

theorem walk_of {l : PySem.W.OpenLaw} {n k : Nat} {q : Program} {loose : List Str} {XP : (Str → Option Value) → Heap → Prop} {YP : World → Heap → Prop} {d : DefRec} {K : Params → PySem.W.Frag} {CX : World → CXT} {sp : World → Sp} {x : Str}
    (hn : l.most = some n) (hn2 : n ≤ sizeLine) (hdf : d.params.defaults = []) (hr : Room k callerA)
    (hY : ∀ (w : World) (h : Heap), YP w h → (K w.params).In h)
    (F : ∀ (w : World) (mg : Str → Option Value) (fa : Addr) (h : Heap), (K w.params).In h → h.Ns mainGlobals mg → mg d.name = some (.ref fa) →
      ∃ fd : FuncData, (∀ (s : Shared) (u : Value), BindsTo s fd ⟨[u], []⟩ [(x, u)]) ∧
        ∀ base : Heap, (K w.params).In base → base.Ns mainGlobals mg → FnOk l.prog w (K w.params) mg base (CX w) k fa fd [x] (sp w))
    (hsp : ∀ (w : World) (H : Hp) (a : Addr) (ns : List Int), ns.length ≤ n → Only H → SqL (K w.params) H a (ns.map V.int) → sp w [.ref a] H (fun v _ => v = .bl true) fun _ _ _ => False)
    (hCX : ∀ (w : World) (H : Hp) (s : Shared) (e : Value) (s' : Shared), CX w [] H s (fun _ _ _ => False) e s' → False) :
    PySem.W.WalkO q loose XP YP l.row.toRowW d [] (fun f vs => PySem.call f vs) := by
  refine Att.attach_call hn hdf fun w s₀ s₁ mg mb fa o pm cd doc a vs ns G Y ho hd hcd hmg hobj hints hlen hg => ?_
  have KX := hY w _ Y
  obtain ⟨fd, hb, hF⟩ := F w mg fa _ KX G.T.g hmg
  exact law_call KX G.T.g G.T.b G.T.builtins G.T.nolimit hg hobj hints (Nat.le_trans hlen hn2) hr hF hb (fun H hO hS => hsp w H a ns hlen hO hS) fun H e s' => hCX w H s₁ e s'
theorem walk_ofK {l : PySem.W.OpenLaw} {n k : Nat} {q : Program} {loose : List Str} {XP : (Str → Option Value) → Heap → Prop} {YP : World → Heap → Prop} {d : DefRec} {K : Params → PySem.W.Frag} {CX : CXT} {sp : PySem.W.Frag → Sp} {x : Str}
    (hn : l.most = some n) (hn2 : n ≤ sizeLine) (hdf : d.params.defaults = []) (hr : Room k callerA)
    (hY : ∀ (w : World) (h : Heap), YP w h → (K w.params).In h)
    (F : ∀ (w : World) (mg : Str → Option Value) (fa : Addr) (h : Heap), (K w.params).In h → h.Ns mainGlobals mg → mg d.name = some (.ref fa) →
      ∃ fd : FuncData, (∀ (s : Shared) (u : Value), BindsTo s fd ⟨[u], []⟩ [(x, u)]) ∧
        ∀ base : Heap, (K w.params).In base → base.Ns mainGlobals mg → FnOk l.prog w (K w.params) mg base CX k fa fd [x] (sp (K w.params)))
    (hsp : ∀ (K : PySem.W.Frag) (H : Hp) (a : Addr) (ns : List Int), ns.length ≤ n → Only H → SqL K H a (ns.map V.int) → sp K [.ref a] H (fun v _ => v = .bl true) fun _ _ _ => False)
    (hCX : ∀ (H : Hp) (s : Shared) (e : Value) (s' : Shared), CX [] H s (fun _ _ _ => False) e s' → False) :
    PySem.W.WalkO q loose XP YP l.row.toRowW d [] (fun f vs => PySem.call f vs) :=
  walk_of (K := K) (CX := fun _ => CX) (sp := fun w => sp (K w.params)) hn hn2 hdf hr hY F (fun w H a ns h1 h2 h3 => hsp (K w.params) H a ns h1 h2 h3) fun _ H s e s' => hCX H s e s'
end L2


namespace L2
open PySem PySem.Spec PyProof.Rows

def inClass (s : Stmt) (j : Nat) : Stmt := match s with
  | .ClassDef _ _ _ body _ _ _ _ _ _ _ => body.getD j (.Pass ⟨0, 0, 0, 0⟩)
  | _ => .Pass ⟨0, 0, 0, 0⟩
def defArgs (s : Stmt) : Arguments := match s with
  | .FunctionDef _ a _ _ _ _ _ _ _ _ => a
  | _ => { posonlyargs := [], args := [], vararg := none, kwonlyargs := [], kw_defaults := [], kwarg := none, defaults := [] }
def defBody (s : Stmt) : List Stmt := match s with
  | .FunctionDef _ _ b _ _ _ _ _ _ _ => b
  | _ => []
def defScope (s : Stmt) : Scope := match s with
  | .FunctionDef _ _ _ _ _ _ sc _ _ _ => sc
  | _ => { kind := .function, names := [], isGenerator := false, isCoroutine := false }

abbrev CX0 : CXT := fun _ _ _ _ _ _ => False
abbrev E0 : XK := fun _ _ _ => False
theorem pass0 {X : Cx} : Passes CX0 X E0 := fun _ _ _ _ _ _ _ h => h.elim

structure Fun (K : PySem.W.Frag) (x qual : Str) (st : Stmt) (f : Addr) (fd : FuncData) : Prop where
  ex : ∃ (oc : Value) (od : Option Addr) (kV doc pm : Value) (an : Option Addr) (cdv ct : Value) (osl : Array (Option Value)),
    fd = PySem.W.fnOf x qual (defArgs st) (defBody st) (defScope st) .none kV doc pm an cdv ct ∧ K.lookup f = some ⟨oc, od, .func fd, osl⟩ ∧ PySem.W.codeIn K cdv qual = true
  kp : PySem.W.keepIn K (.ref f) = true
section
variable {P : Program} {w : World} {K : PySem.W.Frag} {mg : Str → Option Value} {base : Heap}
theorem Fun.ok {x qual : Str} {st : Stmt} {f : Addr} {fd : FuncData} {N ps : List Str} {k : Nat} {sp : Sp} (F : Fun K x qual st f fd) (S : FnScope N ps (defScope st)) (len : ∀ vs H Q E, sp vs H Q E → vs.length = ps.length)
    (hbody : ∀ (cdv : Value) (A : Around) (outer : List Env) (s : Shared) (H : Hp) (vs : List V) (Q : VK) (E : XK), Room k (A.deeper (envOfC qual (defScope st) s.heap.objs.size f cdv)) → sp vs H Q E →
      ∃ t, PSs (cxOf CX0 P w K mg base N qual (defScope st) f cdv A outer s H E).nox (defBody st) t ∧ t { nx := fun _ H' => Q .non H', rt := Q } (start N vs) H) : FnOk P w K mg base CX0 (k + 1) f fd ps sp := by
  obtain ⟨oc, od, kV, doc, pm, an, cdv, ct, osl, rfl, lk, hcd⟩ := F.ex
  refine fn_of lk hcd S len fun A outer s H vs Q E hr hsp => ?_
  obtain ⟨t, h, q⟩ := hbody cdv A outer s H vs Q E hr hsp
  exact ⟨t, h.nox, q⟩
theorem Fun.binds {x qual : Str} {st : Stmt} {f : Addr} {fd : FuncData} {ps : List Str} (F : Fun K x qual st f fd)
    (h : ∀ (kV doc pm : Value) (an : Option Addr) (cdv ct : Value) (us : List Value), us.length = ps.length → bindArgs (PySem.W.fnOf x qual (defArgs st) (defBody st) (defScope st) .none kV doc pm an cdv ct) ⟨us, []⟩ = pure (ps.zip us)) : Binds K fd ps [] := by
  obtain ⟨oc, od, kV, doc, pm, an, cdv, ct, osl, rfl, lk, hcd⟩ := F.ex
  exact .all (h kV doc pm an cdv ct)
theorem fun_mk {x qual : Str} {st : Stmt} {f : Addr} {oc : Value} {od an : Option Addr} {osl : Array (Option Value)} {kV doc pm cdv ct : Value} (l : K.lookup f = some ⟨oc, od, .func (PySem.W.fnOf x qual (defArgs st) (defBody st) (defScope st) .none kV doc pm an cdv ct), osl⟩)
    (c : PySem.W.codeIn K cdv qual = true) (k : PySem.W.keepIn K (.ref f) = true) : Fun K x qual st f (PySem.W.fnOf x qual (defArgs st) (defBody st) (defScope st) .none kV doc pm an cdv ct) := ⟨⟨oc, od, kV, doc, pm, an, cdv, ct, osl, rfl, l, c⟩, k⟩
end
theorem small1000 {n : Nat} (h : n ≤ 1000) : n < sizeLine := Nat.lt_of_le_of_lt h (by decide)

section
variable {X : Cx}
theorem pv (i : Nat) {x : Str} {pos : Pos} (hN : X.N[i]? = some x := by rfl) (hv : Vis X.env.scope x := by first | exact Or.inl rfl | exact Or.inr (Or.inl rfl) | exact Or.inr (Or.inr rfl)) (hd : (x == ("__debug__" : Str)) = false := by decide)
    (hcd : (x == ("__classdict__" : Str)) = false := by decide) : PE X (.Name x pos) (tVar i) := pe_var hN hv hd hcd
end

theorem iteF {A B : Prop} (h : B) : if false = true then A else B := by
  rw [if_neg Bool.false_ne_true]
  exact h
theorem iteT {A B : Prop} (h : A) : if true = true then A else B := by
  rw [if_pos rfl]
  exact h
theorem ite2 {c A B : Prop} [Decidable c] (h1 : c → A) (h2 : ¬ c → B) : if c then A else B := by
  by_cases h : c
  · rw [if_pos h]
    exact h1 h
  · rw [if_neg h]
    exact h2 h
theorem iteNS {c A B : Prop} [Decidable c] (hc : c) (h : B) : if (!decide c) = true then A else B := by
  rw [decide_eq_true hc]
  exact iteF h

def Same (H H' : Hp) : Prop := ∀ b o, H b = some o → H' b = some o
theorem Same.refl (H : Hp) : Same H H := fun _ _ h => h
theorem Same.trans {H H1 H2 : Hp} (a : Same H H1) (b : Same H1 H2) : Same H H2 := fun c o h => b c o (a c o h)
end L2

set_option Elab.async false
set_option linter.all false
set_option maxRecDepth 100000
set_option maxHeartbeats 4000000
namespace L2
open PySem PySem.Spec PyProof.Rows
section
variable {X : Cx}
def CDivB (_ j : Int) : Prop := 0 < j ∧ j < 2 ^ 250
theorem log2_big {j : Int} (h1 : 0 < j) (h2 : j < 2 ^ 250) : j.natAbs.log2 < 9000 := by
  have h0 : j.natAbs ≠ 0 := by omega
  have h3 : j.natAbs < 2 ^ 250 := by omega
  exact Nat.lt_trans ((Nat.log2_lt h0).mpr h3) (by decide)
theorem op_fdivB : OpR X (binaryOp .FloorDiv) (rI CDivB fun i j => .int (i / j)) := opI fun i j _ _ _ _ _ hc q => by
  have h1 : (0 : Int) < j := hc.1
  exact floordiv_int (by omega) (by rw [Int.fdiv_eq_ediv_of_nonneg i (by omega)]; exact q) (.inl (PyProof.noPylong_of_log2 (log2_big hc.1 hc.2)))
def CMulB (i j : Int) : Prop := i.natAbs < 2 ^ 250 ∧ j.natAbs < 2 ^ 250
theorem CMulB.ok {i j : Int} (h : CMulB i j) : IntMulOk i j := by
  have a : Builtin.Int.intBits i ≤ 250 := intBits_le h.1
  have b : Builtin.Int.intBits j ≤ 250 := intBits_le h.2
  unfold IntMulOk Builtin.Int.intTooBig
  intro z
  rw [Bool.and_eq_true] at z
  have c := of_decide_eq_true z.2
  rw [bitsLine_eq] at c
  omega
theorem op_mulB : OpR X (binaryOp .Mult) (rI CMulB fun i j => .int (i * j)) := opI fun _ _ _ _ _ _ _ hc q => mul_int q hc.ok
theorem call_isinst : CallR X (.builtin "isinstance") (fun xs H Q => ∃ x n t b, xs = [x, .ty n] ∧ TyOf X.K H x t ∧ PySem.W.kitOne X.K t (.type n) = some b ∧ Q (.bl b) H) := by
  intro pins s σ H xs us Q I r h
  obtain ⟨x, n, t, b, rfl, ty, e, q⟩ := h
  obtain ⟨u, w', rfl, r1, r2⟩ := vals2 r
  cases (show w' = Value.type n from r2)
  exact isinst_ok I r1 ty e (fun tk => ⟨.bl b, H, I.tok _, rfl, q⟩)
end
section
variable {K : PySem.W.Frag}
theorem kit_self (T : String) : PySem.W.kitOne K (.type T) (.type T) = some true := by
  unfold PySem.W.kitOne
  rw [if_pos (beq_self_eq_true _)]
theorem kit_of {T S : String} {b : Bool} (h1 : (Value.type T == Value.type S) = false) (h2 : PySem.W.kitMeta S = true) (h3 : (fastBuiltinMro T).map (·.contains (Value.type S)) = some b) : PySem.W.kitOne K (.type T) (.type S) = some b := by
  unfold PySem.W.kitOne
  rw [if_neg (by rw [h1]; exact Bool.false_ne_true)]
  show (if PySem.W.kitMeta S = true then PySem.W.subIn K (.type T) (.type S) else none) = some b
  rw [if_pos h2]
  exact h3
theorem kit_int_bool : PySem.W.kitOne K (.type "int") (.type "bool") = some false := kit_of (by decide +kernel) (by decide +kernel) (by decide +kernel)
theorem bt_isinstance : bootBuiltins "isinstance" = some (.builtin "isinstance") := by decide +kernel
theorem bt_max : bootBuiltins "max" = some (.builtin "max") := by decide +kernel
theorem bt_min : bootBuiltins "min" = some (.builtin "min") := by decide +kernel
theorem bt_int : bootBuiltins "int" = some (.type "int") := by decide +kernel
theorem bt_bool : bootBuiltins "bool" = some (.type "bool") := by decide +kernel
theorem bt_list : bootBuiltins "list" = some (.type "list") := by decide +kernel
theorem bt_tuple : bootBuiltins "tuple" = some (.type "tuple") := by decide +kernel
end
end L2

set_option Elab.async false
set_option linter.all false
set_option maxRecDepth 100000
set_option maxHeartbeats 4000000
namespace L2
open PySem PySem.Spec PyProof.Rows
theorem closure_of {scope : Scope} {env : Env} (h : ∀ y ∈ scope.names, y.2 = .free → ∃ c, env.cells.lookup y.1 = some c) :
    ∃ cl, closureFor scope env = pure cl ∧ (∀ x c, cl.lookup x = some c → env.cells.lookup x = some c) ∧ (∀ y ∈ scope.names, y.2 = .free → ∃ c, cl.lookup y.1 = some c) := by
  have key : ∀ (ns : List (Str × NameKind)) (cs : List (Str × Addr)), (∀ y ∈ ns, y.2 = .free → ∃ c, env.cells.lookup y.1 = some c) → (∀ x c, cs.lookup x = some c → env.cells.lookup x = some c) →
      ∃ cl, (forIn ns cs fun (x : Str × NameKind) (cs : List (Str × Addr)) => (if x.2 == .free then do let c ← cellOf env x.1; pure (ForInStep.yield ((x.1, c) :: cs)) else pure (ForInStep.yield cs) : Sem _)) = pure cl ∧
        (∀ x c, cl.lookup x = some c → env.cells.lookup x = some c) ∧ (∀ x c, cs.lookup x = some c → ∃ c, cl.lookup x = some c) ∧ (∀ y ∈ ns, y.2 = .free → ∃ c, cl.lookup y.1 = some c) := by
    intro ns
    induction ns with
    | nil => intro cs _ hc; exact ⟨cs, rfl, hc, fun x c e => ⟨c, e⟩, fun y hy => nomatch hy⟩
    | cons y r ih =>
      intro cs hn hc
      obtain ⟨n, k⟩ := y
      by_cases hk : k = .free
      · subst hk
        obtain ⟨c, e⟩ := hn (n, .free) List.mem_cons_self rfl
        obtain ⟨cl, e1, e2, e3, e4⟩ := ih ((n, c) :: cs) (fun y hy => hn y (List.mem_cons_of_mem _ hy)) (fun x c' q => by
          rw [List.lookup_cons] at q
          cases hx : x == n with
          | true =>
            rw [hx] at q
            cases q
            have : x = n := by simpa using hx
            rw [this]
            exact e
          | false =>
            rw [hx] at q
            exact hc x c' q)
        refine ⟨cl, ?_, e2, fun x c' q => ?_, fun y hy hyk => ?_⟩
        · rw [List.forIn_cons]
          have e' : env.cells.lookup n = some c := e
          simp only [beq_self_eq_true, if_true, cellOf, e']
          exact e1
        · cases hx : x == n with
          | true => exact e3 x c (by rw [List.lookup_cons, hx])
          | false => exact e3 x c' (by rw [List.lookup_cons, hx]; exact q)
        · rcases List.mem_cons.mp hy with rfl | hy
          · exact e3 n c (by rw [List.lookup_cons]; simp)
          · exact e4 y hy hyk
      · obtain ⟨cl, e1, e2, e3, e4⟩ := ih cs (fun y hy => hn y (List.mem_cons_of_mem _ hy)) hc
        refine ⟨cl, ?_, e2, e3, fun y hy hyk => ?_⟩
        · rw [List.forIn_cons]
          have hb : (k == NameKind.free) = false := by simpa using hk
          simp only [hb, Bool.false_eq_true, if_false]
          exact e1
        · rcases List.mem_cons.mp hy with rfl | hy
          · exact absurd hyk hk
          · exact e4 y hy hyk
  obtain ⟨cl, e1, e2, _, e4⟩ := key scope.names [] h (fun x c e => by simp at e)
  refine ⟨cl, ?_, e2, e4⟩
  simp only [closureFor]
  rw [show (forIn scope.names ([] : List (Str × Addr)) fun (x : Str × NameKind) (cs : List (Str × Addr)) => (if x.2 == .free then do let c ← cellOf env x.1; pure (ForInStep.yield ((x.1, c) :: cs)) else pure (ForInStep.yield cs) : Sem _)) = pure cl from e1]
  rfl
theorem relabel_inv {scope : Scope} {env : Env} {x : Str} {k : NameKind} (h : (relabel scope env).names.lookup x = some k) : ∃ k0, scope.names.lookup x = some k0 ∧ (k0 = k ∨ (k0 = .free ∧ k = .cell)) := by
  unfold relabel at h
  dsimp only at h
  revert h
  generalize scope.names = ns
  induction ns with
  | nil => intro h; simp at h
  | cons y r ih =>
    obtain ⟨n, k'⟩ := y
    intro h
    rw [List.map_cons] at h
    cases hx : x == n with
    | true =>
      rw [List.lookup_cons, hx]
      refine ⟨k', rfl, ?_⟩
      dsimp only at h
      split at h
      · rename_i hc
        rw [List.lookup_cons, hx] at h
        cases h
        rw [Bool.and_eq_true, Bool.and_eq_true] at hc
        exact .inr ⟨by simpa using hc.1.1, rfl⟩
      · rw [List.lookup_cons, hx] at h
        cases h
        exact .inl rfl
    | false =>
      rw [List.lookup_cons, hx]
      dsimp only at h
      apply ih
      split at h
      · rw [List.lookup_cons, hx] at h; exact h
      · rw [List.lookup_cons, hx] at h; exact h
theorem relabel_free {scope : Scope} {env : Env} {x : Str} (h : scope.names.lookup x = some .free) (hk : env.scope.kind = .function) (hc : env.kindOf x = some .cell) : (relabel scope env).names.lookup x = some .cell := by
  unfold relabel
  dsimp only
  revert h
  generalize scope.names = ns
  induction ns with
  | nil => intro h; simp at h
  | cons y r ih =>
    obtain ⟨n, k'⟩ := y
    intro h
    rw [List.map_cons]
    cases hx : x == n with
    | true =>
      rw [List.lookup_cons, hx] at h
      cases h
      have : x = n := by simpa using hx
      subst this
      dsimp only
      rw [if_pos (by rw [hk, hc]; rfl), List.lookup_cons, hx]
    | false =>
      rw [List.lookup_cons, hx] at h
      dsimp only
      split
      · rw [List.lookup_cons, hx]; exact ih h
      · rw [List.lookup_cons, hx]; exact ih h
section
variable {prog : Program} {w : World} {A : Around} {R : Result → Shared → Prop} {s : Shared}
theorem compLoop_any {elt target iter : Expr} {ifs : List Expr} {scope : Scope} {pos : Pos} {it acc : Value} {env : Env} (I : Nat → Shared → Prop)
    (turn : ∀ n s, I n s → wpAny (model prog w) A (pyNext it) (fun r s₁ => match r with
      | none => R (.ok .next) s₁
      | some v => wpAny (model prog w) A (letOwnedTupleGo target it v) (fun _ s₀ => wpAny (model prog w) A (assign target env v) (fun _ s₂ =>
          wpAny (model prog w) A (forIn ifs true fun c r => if r = true then do let ok ← isTrue c env (eval c env); pure (ForInStep.yield ok) else pure (ForInStep.yield r)) (fun ok s₃ =>
            if ok = true then wpAny (model prog w) A (eval elt env) (fun x s₄ =>
              wpAny (model prog w) A (call (.builtin "list.append") [acc, x]) (fun _ s₅ => ∃ m, m < n ∧ I m s₅) (fun _ _ => False) s₄) (fun _ _ => False) s₃
            else ∃ m, m < n ∧ I m s₃) (fun _ _ => False) s₂) (fun _ _ => False) s₀) (fun _ _ => False) s₁) (fun _ _ => False) s)
    (n : Nat) (h : I n s) :
    codeAny (model prog w) A (.compLoop (.ListComp elt [⟨target, iter, ifs, 0⟩] scope pos) 0 it acc env) R s := by
  refine codeAny_loop rfl I (fun n s hI => ?_) n h
  show wpAny _ A ((compTurn (.ListComp elt [⟨target, iter, ifs, 0⟩] scope pos) 0 it acc env).onRaise (fun x => do noteFrame x env; theTreesLotGoes x)) _ _ s
  refine wpAny_noted ?_
  rw [compTurn_list]
  refine wpAny_bind (wpAny_standAt (wpAny_bind (wpAny_mono (turn n s hI) (fun r s₁ h₁ => ?_) fun _ _ h' => h'.elim)))
  cases r with
  | none => exact wpAny_pure h₁
  | some v =>
    refine wpAny_bind (wpAny_mono h₁ (fun _ s₀ h₀ => ?_) fun _ _ h' => h'.elim)
    refine wpAny_bind (wpAny_mono h₀ (fun _ s₂ h₂ => wpAny_bind (wpAny_mono h₂ (fun ok s₃ h₃ => ?_) fun _ _ h' => h'.elim)) fun _ _ h' => h'.elim)
    cases ok with
    | false => exact wpAny_pure ⟨rfl, h₃⟩
    | true =>
      exact wpAny_bind (wpAny_bind (wpAny_mono h₃ (fun x s₄ h₄ => wpAny_bind (wpAny_mono h₄ (fun _ s₅ h₅ => wpAny_pure (wpAny_pure ⟨rfl, h₅⟩)) fun _ _ h' => h'.elim)) fun _ _ h' => h'.elim))
end

section
variable {X : Cx} {pins : List (Addr × Obj)} {σ : St} {H : Hp} {s : Shared}
def PCs (X : Cx) (ifs : List Expr) (t : TT) : Prop :=
  ∀ (pins : List (Addr × Obj)) (s : Shared) (σ : St) (H : Hp) (Q : Bool → Hp → Prop), Inv X pins σ H s → t σ H Q →
    wpAny (model X.prog X.w) X.A (forIn ifs true fun c r => if r = true then do let ok ← isTrue c X.env (eval c X.env); pure (ForInStep.yield ok) else pure (ForInStep.yield r)) (TP X pins σ Q) X.xe s
def tYes : TT := fun _ H Q => Q true H
theorem yesT {σ : St} {H : Hp} {A B : Hp → Prop} (h : A H) : tYes σ H (fun b H3 => if b = true then A H3 else B H3) := by
  show (if true = true then A H else B H)
  exact iteT h
theorem nameYes {i : Nat} {x : V} {σ : St} {H : Hp} {A B : St → Hp → Prop} (h : A (σ.set i (some x)) H) : gName i x σ H (fun σ2 H2 => tYes σ2 H2 (fun b H3 => if b = true then A σ2 H3 else B σ2 H3)) := by
  show (if true = true then A (σ.set i (some x)) H else B (σ.set i (some x)) H)
  exact iteT h
theorem pcs_nil : PCs X [] tYes := fun pins s σ H Q I h => wpAny_tests_nil ⟨H, I, h⟩
theorem pcs_one {c : Expr} {t : TT} (h : PT X c t) : PCs X [c] t := fun pins s σ H Q I q => wpAny_tests_one (h pins s σ H Q I q)
end
def pick (n : Nat) (outs : List Nat) (σ : St) : St := List.replicate n none ++ outs.map fun j => (σ[j]?).join
theorem pick_len (n : Nat) (outs : List Nat) (σ : St) : (pick n outs σ).length = n + outs.length := by
  unfold pick
  rw [List.length_append, List.length_replicate, List.length_map]
def cxComp (X : Cx) (N' : List Str) (scope : Scope) (cl : List (Str × Addr)) (C : Addr) (s : Shared) (H : Hp) (ex : List Addr) : Cx where
  prog := X.prog
  w := X.w
  K := X.K
  mg := X.mg
  base := X.base
  A := X.A
  N := N'
  s₀ := s
  H₀ := H
  env := compEnvC scope cl C X.env
  outer := X.stack
  stack := X.stack
  ex := ex
  fn := fun _ => false
  calm := X.calm
  pn := []
  xe := fun _ _ => False
structure CompScope (dsc scope : Scope) (N tgs : List Str) (outs : List Nat) (N' : List Str) : Prop where
  kind : scope.kind = .function
  names : ∀ x ∈ scope.names, x.2 = .local → scope.names.lookup x.1 = some .local
  nocell : ∀ y ∈ scope.names, y.2 ≠ .cell
  free : ∀ y ∈ scope.names, y.2 = .free → dsc.names.lookup y.1 = some .cell
  isN : N' = tgs ++ outs.map (fun j => N.getD j "")
  lts : ∀ j ∈ outs, j < N.length
  outF : ∀ j ∈ outs, scope.names.lookup (N.getD j "") = some .free
  nd : N'.Nodup
def Tgt (n : Nat) (g : TG) : Prop := ∀ x σ H Q, g x σ H Q → g x σ H (fun σ2 H2 => Q σ2 H2 ∧ σ2.length = σ.length ∧ ∀ i, n ≤ i → σ2[i]? = σ[i]?)
theorem tgt_name {n i : Nat} (h : i < n) : Tgt n (gName i) := fun x σ H Q q => ⟨q, by rw [List.length_set], fun j hj => List.getElem?_set_ne (by omega)⟩
def Tgts (n : Nat) (g : TGs) : Prop := ∀ xs σ H Q, g xs σ H Q → g xs σ H (fun σ2 H2 => Q σ2 H2 ∧ σ2.length = σ.length ∧ ∀ i, n ≤ i → σ2[i]? = σ[i]?)
theorem tgts_nil {n : Nat} : Tgts n gNil := fun xs σ H Q ⟨e, q⟩ => ⟨e, q, rfl, fun _ _ => rfl⟩
def TMono (g : TGs) : Prop := ∀ xs σ H Q Q', (∀ σ2 H2, Q σ2 H2 → Q' σ2 H2) → g xs σ H Q → g xs σ H Q'
theorem tgts_name {n i : Nat} {u : TGs} (h : i < n) (hu : Tgts n u) (mu : TMono u) : Tgts n (gCons (gName i) u) := fun xs σ H Q ⟨v, r, e, q⟩ => by
  refine ⟨v, r, e, ?_⟩
  have z := hu r (σ.set i (some v)) H Q q
  refine mu r _ H _ _ (fun σ2 H2 ⟨a, b, c⟩ => ⟨a, ?_, fun j hj => ?_⟩) z
  · rw [b, List.length_set]
  · rw [c j hj, List.getElem?_set_ne (by omega)]
theorem tmono_nil : TMono gNil := fun xs σ H Q Q' h ⟨e, q⟩ => ⟨e, h _ _ q⟩
theorem tmono_name {i : Nat} {u : TGs} (mu : TMono u) : TMono (gCons (gName i) u) := fun xs σ H Q Q' h ⟨v, r, e, q⟩ => ⟨v, r, e, mu r _ H _ _ h q⟩
theorem tgt_tup {K : PySem.W.Frag} {n k : Nat} {t : TGs} (h : Tgts n t) : Tgt n (gTup K k t) := fun x σ H Q ⟨a, xs, e, hq, hl, q⟩ => ⟨a, xs, e, hq, hl, h xs σ H Q q⟩
def tComp (n : Nat) (outs : List Nat) (wi : TI) (g : TG) (tc : TT) (te : TE) : TE := fun σ H Q => wi σ H fun J H1 =>
  ∃ W : Nat → Nat → List V → Hp → Prop, (∃ m, W 0 m [] H1) ∧ ∀ i m acc H, W i m acc H →
    (J.stop i H ∧ acc.length ≤ sizeLine ∧ ∀ l, H l = none → Q (.ref l) (upd H l (.lst acc))) ∨
    (J.go i H ∧ acc.length < sizeLine ∧ ∃ N : List V → Hp → Prop, (∀ acc' H', N acc' H' → ∃ m', m' < m ∧ W (i + 1) m' acc' H') ∧ ∀ x H', J.yld i H x H' → g x (pick n outs σ) H' fun σ2 H2 => tc σ2 H2 fun b H3 =>
      if b = true then te σ2 H3 fun y H4 => N (acc ++ [y]) H4 else N acc H3)
section
variable {X : Cx} {pins : List (Addr × Obj)} {σ : St} {H2 : Hp} {s2 : Shared} {dsc scope : Scope} {tgs N' : List Str} {outs : List Nat} {cl : List (Str × Addr)} {fp : List Addr} {C D : Addr} {h1 : Heap} {tk : Nat} {mC : Str → Option Value}
theorem comp_start (S : CompScope dsc scope X.N tgs outs N') (hsc : X.env.scope = dsc) (I2 : Inv X pins σ H2 s2) (f2 : ∀ b ∈ fp, FpOk X pins H2 b) (hfp : ∀ b ∈ fp, b < s2.heap.objs.size)
    (hcl1 : ∀ x c, cl.lookup x = some c → X.env.cells.lookup x = some c) (hcl2 : ∀ y ∈ scope.names, y.2 = .free → ∃ c, cl.lookup y.1 = some c)
    (hC : s2.heap.objs.size ≤ C) (kp : ∀ b o, s2.heap.get? b = some o → h1.get? b = some o) (nC : h1.Ns C mC) :
    Inv (cxComp X N' scope cl C s2 H2 fp) [] (pick tgs.length outs σ) H2 { s2 with heap := h1, toks := tk } := by
  have freeAt : ∀ x, scope.names.lookup x = some .free → (relabel scope X.env).names.lookup x = some .cell := fun x e =>
    relabel_free e I2.ok.kind (by show X.env.scope.names.lookup x = some .cell; rw [hsc]; exact S.free (x, .free) (PySem.mem_of_lookup e) rfl)
  refine ⟨⟨I2.ok.mod, ?_, I2.ok.glob, I2.ok.blt, hC, fun x y c e1 e2 => I2.ok.inj x y c (hcl1 x c e1) (hcl1 y c e2), fun x hx => ?_, (fun x c h => nomatch h), I2.ok.hd, I2.ok.frames, .inl rfl, fun b hb => ?_, I2.bs, Nat.le_trans I2.ok.bsz I2.sz, fun b o e hb => ?_, fun b hb => ?_, I2.stack, I2.stkFree⟩,
    rfl, I2.bare, Un.kept kp, ⟨mC, nC, fun i x v e1 e2 e3 => ?_⟩, fun x c e => ?_, I2.hok.fresh hC, fun x c e => I2.freeC x c (hcl1 x c e), fun p hp => absurd (show p ∈ ([] : List (Addr × Obj)) from hp) (by simp), I2.hok.kept kp, ?_⟩
  · exact S.kind
  · have hx' : (relabel scope X.env).names.lookup x = some .cell ∨ (relabel scope X.env).names.lookup x = some .free := hx
    have z : scope.names.lookup x = some .free := by
      rcases hx' with hx' | hx'
      · obtain ⟨k0, e, h | ⟨h, _⟩⟩ := relabel_inv hx'
        · rw [h] at e
          exact absurd rfl (S.nocell _ (PySem.mem_of_lookup e))
        · rw [h] at e; exact e
      · obtain ⟨k0, e, h | ⟨h, _⟩⟩ := relabel_inv hx'
        · rw [h] at e; exact e
        · rw [h] at e; exact e
    exact hcl2 (x, .free) (PySem.mem_of_lookup z) rfl
  · refine ⟨fun z => ?_, fun x c e => (f2 b hb).2.2.2.2.1 x c (hcl1 x c e)⟩
    have z' : b = C := z
    exact absurd (Nat.lt_of_lt_of_le (hfp b hb) hC) (by rw [z']; exact Nat.lt_irrefl _)
  · rcases (f2 b hb).2.2.2.1 with z | z
    · exact I2.ok.noex b o e z
    · exact absurd (Nat.lt_of_lt_of_le (Heap.lt_size e) (Nat.le_trans I2.ok.bsz z)) (Nat.lt_irrefl _)
  · intro z
    rcases List.mem_cons.mp (I2.stkSub b z) with z | z
    · exact (f2 b hb).2.1 z
    · exact (f2 b hb).2.2.1 z
  · have e2' : (List.replicate tgs.length (none : Option V) ++ outs.map fun j => (σ[j]?).join)[i]? = some (some v) := e2
    have e1' : N'[i]? = some x := e1
    by_cases hi : i < tgs.length
    · rw [List.getElem?_append_left (by rw [List.length_replicate]; exact hi), List.getElem?_replicate, if_pos hi] at e2'
      cases e2'
    · rw [List.getElem?_append_right (by rw [List.length_replicate]; omega), List.length_replicate, List.getElem?_map] at e2'
      rw [S.isN, List.getElem?_append_right (by omega), List.getElem?_map] at e1'
      cases ej : outs[i - tgs.length]? with
      | none => rw [ej] at e2'; cases e2'
      | some j =>
        rw [ej] at e1' e2'
        have hj : j ∈ outs := List.mem_of_getElem? ej
        have ex : X.N.getD j "" = x := Option.some.inj e1'
        have ev : (σ[j]?).join = some v := Option.some.inj e2'
        have ev' : σ[j]? = some (some v) := by
          cases q : σ[j]? with
          | none => rw [q] at ev; cases ev
          | some o => rw [q] at ev; exact congrArg some ev
        have eN : X.N[j]? = some x := by
          have hl := S.lts j hj
          rw [← ex, List.getD_eq_getElem?_getD, List.getElem?_eq_getElem hl]
          rfl
        have fx : scope.names.lookup x = some .free := by rw [← ex]; exact S.outF j hj
        have cx : X.env.scope.names.lookup x = some .cell := by rw [hsc]; exact S.free (x, .free) (PySem.mem_of_lookup fx) rfl
        obtain ⟨m, hn, hl⟩ := I2.loc
        obtain ⟨u, ru, lk⟩ := hl j x v eN ev' (.inr (.inl cx))
        refine ⟨u, ru, ?_⟩
        rcases lk with ⟨k, _⟩ | ⟨k, c, ec, ⟨oc, hoc, hdc⟩⟩
        · have k' : X.env.scope.names.lookup x = some .local := k
          rw [cx] at k'; cases k'
        · obtain ⟨c', ec'⟩ := hcl2 (x, .free) (PySem.mem_of_lookup fx) rfl
          have ecc := hcl1 x c' ec'
          rw [ec] at ecc
          cases ecc
          exact .inr ⟨.inl (freeAt x fx), c, ec', oc, kp _ _ hoc, hdc⟩
  · obtain ⟨v, oc, hoc, hdc⟩ := I2.cell x c (hcl1 x c e)
    exact ⟨v, oc, kp _ _ hoc, hdc⟩
  · show (pick tgs.length outs σ).length = N'.length
    rw [pick_len, S.isN, List.length_append, List.length_map]
theorem comp_end {σ5 : St} {H5 : Hp} {s5 : Shared} {acc : List V} {its : List Value} {n : Nat} (I2 : Inv X pins σ H2 s2) (I5 : Inv (cxComp X N' scope cl C s2 H2 fp) [] σ5 H5 s5) (f2 : ∀ b ∈ fp, FpOk X pins H2 b)
    (hD : s2.heap.objs.size ≤ D) (eD : s5.heap.get? D = some { cls := .type "list", data := .seq its.toArray n }) (r : Vals acc its) (hz : acc.length ≤ sizeLine) (hn : H5 D = none) : Inv X pins σ (upd H5 D (.lst acc)) s5 := by
  have ne : ∀ b o, s2.heap.get? b = some o → b ≠ D := fun b o e z => absurd (Nat.lt_of_lt_of_le (Heap.lt_size e) (by rw [z]; exact hD)) (Nat.lt_irrefl _)
  refine I2.call' (ch := fp) I5.os ⟨fun b o e nn hb hx => ?_, fun b o e nn hb hx => ?_, fun b o e nn hx => ?_, fun b o e hx => ?_, fun b xs e => ?_, fun b o u e => ?_, fun b ps e => ?_⟩ (fun b u e => ?_) I5.bare fun b hb => ⟨(f2 b hb).2.2.2.1, (f2 b hb).2.1, (f2 b hb).2.2.2.2.1, (f2 b hb).2.2.2.2.2⟩
  · exact I5.base.keep b o e nn hb hx
  · exact I5.base.slot b o e nn hb hx
  · rw [upd_ne (ne b o e)]
    exact I5.base.free b o e nn hx
  · exact I5.base.there b o e hx
  · have q := I5.base.tups b xs e
    rw [upd_ne (ne_of_none q hn)]
    exact q
  · have q := I5.base.frzs b o u e
    rw [upd_ne (ne_of_none q hn)]
    exact q
  · obtain ⟨more, q⟩ := I5.base.tbls b ps e
    refine ⟨more, ?_⟩
    rw [upd_ne (ne_of_none q hn)]
    exact q
  · by_cases hb : b = D
    · subst hb
      rw [upd_same] at e
      cases e
      exact ⟨hz, its, n, r, eD⟩
    · rw [upd_ne hb] at e
      exact (I5.hok b u e).stay (fun c v _ q => q) (fun c q => by rw [upd_ne (ne_of_none q hn)]; exact q) fun c xs q => by rw [upd_ne (ne_of_none q hn)]; exact q
end

theorem pick_weak {n : Nat} {outs : List Nat} {σ σ6 : St} (k6 : ∀ i, n ≤ i → σ6[i]? = (pick n outs σ)[i]?) : ∀ (i : Nat) v, (pick n outs σ)[i]? = some (some v) → σ6[i]? = some (some v) := fun i v e => by
  by_cases hi : n ≤ i
  · rw [k6 i hi]; exact e
  · unfold pick at e
    rw [List.getElem?_append_left (by rw [List.length_replicate]; omega), List.getElem?_replicate, if_pos (by omega)] at e
    cases e
section
variable {X : Cx} {tg elt iter : Expr} {ifs : List Expr} {dsc scope : Scope} {tgs N' : List Str} {outs : List Nat} {wi : TI} {g : TG} {tc : TT} {te : TE} {pos : Pos}
theorem comp_block {pins : List (Addr × Obj)} {σ : St} {H2 : Hp} {s2 : Shared} {cl : List (Str × Addr)} {it : Addr} {fp : List Addr} {tn : Nat → Heap → Prop} {J : It} (S : CompScope dsc scope X.N tgs outs N') (hsc : X.env.scope = dsc) (hc : X.calm = true)
    (hg : ∀ cl C s H ex, PG (cxComp X N' scope cl C s H ex) tg g) (hgt : Tgt tgs.length g) (hcs : ∀ cl C s H ex, PCs (cxComp X N' scope cl C s H ex) ifs tc) (he : ∀ cl C s H ex, PE (cxComp X N' scope cl C s H ex) elt te)
    (hcl1 : ∀ x c, cl.lookup x = some c → X.env.cells.lookup x = some c) (hcl2 : ∀ y ∈ scope.names, y.2 = .free → ∃ c, cl.lookup y.1 = some c)
    (I2 : Inv X pins σ H2 s2) (T : Turn X.prog X.w X.K tg J fp it tn) (st2 : tn 0 s2.heap) (f2 : ∀ b ∈ fp, FpOk X pins H2 b)
    {W : Nat → Nat → List V → Hp → Prop} {m0 : Nat} (w0 : W 0 m0 [] H2) {Qf : List V → Hp → Prop}
    (turn : ∀ i m acc H, W i m acc H → (J.stop i H ∧ acc.length ≤ sizeLine ∧ Qf acc H) ∨ (J.go i H ∧ acc.length < sizeLine ∧ ∃ N : List V → Hp → Prop, (∀ acc' H', N acc' H' → ∃ m', m' < m ∧ W (i + 1) m' acc' H') ∧ ∀ x H', J.yld i H x H' → g x (pick tgs.length outs σ) H' fun σ2 H2 => tc σ2 H2 fun b H3 =>
      if b = true then te σ2 H3 fun y H4 => N (acc ++ [y]) H4 else N acc H3))
    {E : Value → Shared → Prop} {RR : Value → Addr → Result → Shared → Prop}
    (fin : ∀ D C s5 mC acc H5, Inv X pins σ (upd H5 D (.lst acc)) s5 → H5 D = none → Qf acc H5 → s5.heap.Ns C mC → FpOk X pins (upd H5 D (.lst acc)) C → RR (.ref D) C (.ok .next) s5) :
    wpAny (model X.prog X.w) X.A (newList []) (fun acc s₃ => wpAny (model X.prog X.w) X.A (newFunctionEnv scope X.env.globals cl [] X.env.qual none .none (some X.env)) (fun cenv s₄ =>
      codeAny (model X.prog X.w) X.A (.compStart (.ListComp elt [⟨tg, iter, ifs, 0⟩] scope pos) 0 (.ref it) acc { cenv with scope := relabel scope X.env }) (RR acc cenv.locals) s₄) E s₃) E s2 := by
  have hfp : ∀ b ∈ fp, b < s2.heap.objs.size := fun b hb => let ⟨o, e, _⟩ := T.obj 0 _ st2 b hb; Heap.lt_size e
  refine wpAny_newObj_type (wpAny_newFunctionEnv S.nocell (by intro y hy; simp at hy) (fun h₁ hns₁ hsb₁ => ?_) S.kind)
  dsimp only at hns₁ hsb₁ ⊢
  generalize hHH : s2.heap.push { cls := .type "list", dict := none, data := .seq ([] : List Value).toArray } = HH at hns₁ hsb₁ ⊢
  have hC : HH.objs.size = s2.heap.objs.size + 1 := by rw [← hHH, Heap.size_push]
  have hDC : s2.heap.objs.size ≠ HH.objs.size := by rw [hC]; exact Nat.ne_of_lt (Nat.lt_succ_self _)
  have hCle : s2.heap.objs.size ≤ HH.objs.size := by rw [hC]; exact Nat.le_succ _
  have old : ∀ b o, s2.heap.get? b = some o → h₁.get? b = some o := fun b o e => hsb₁.extBut b o (by rw [hC]; exact Nat.ne_of_lt (Nat.lt_succ_of_lt (Heap.lt_size e))) (Heap.get?_push_of_some _ (hHH ▸ Heap.get?_push_of_some _ e))
  have hacc : h₁.get? s2.heap.objs.size = some { cls := .type "list", data := .seq ([] : List Value).toArray 0 } := hsb₁.extBut _ _ hDC (Heap.get?_push_of_some _ (hHH ▸ Heap.get?_push_size _ rfl))
  have hDfp : ∀ b ∈ fp, s2.heap.objs.size ≠ b := fun b hb => Nat.ne_of_gt (hfp b hb)
  have fresh2 : H2 s2.heap.objs.size = none := I2.hok.fresh (Nat.le_refl _)
  have I4 := comp_start (tk := s2.toks + ([] : List (Str × Value)).length) S hsc I2 f2 hfp hcl1 hcl2 hCle old hns₁
  have st1 : tn 0 h₁ := T.keep 0 _ _ st2 fun b hb o e => old b o e
  generalize hCC : HH.objs.size = C at *
  generalize hDD : s2.heap.objs.size = D at *
  have nofs : D ∉ (cxComp X N' scope cl C s2 H2 fp).fs := fun z => by
    obtain ⟨_, o, ho, _⟩ := I2.stack.mem (show D ∈ frs X.stack from z)
    have := Heap.lt_size ho
    rw [hDD] at this
    exact Nat.lt_irrefl _ this
  have pinD : ∀ {σ' : St} {H' : Hp} {s' : Shared} {its : List Value} {n : Nat}, Inv (cxComp X N' scope cl C s2 H2 fp) [] σ' H' s' → s'.heap.get? D = some { cls := .type "list", data := .seq its.toArray n } → H' D = none →
      Inv (cxComp X N' scope cl C s2 H2 fp) [(D, { cls := .type "list", data := .seq its.toArray n })] σ' H' s' := fun {σ' H' s' its n} J e hn => J.pins_of fun p hp => by
    have ep : p = (D, { cls := .type "list", data := .seq its.toArray n }) := by simpa using hp
    subst ep
    exact ⟨e, hn, hDC, nofs, fun v z => by cases z⟩
  have stat : ∀ {H' : Hp} {o : Obj}, (∀ b ∈ fp, H' b = none) → ∀ b ∈ fp, FpOk (cxComp X N' scope cl C s2 H2 fp) [(D, o)] H' b := fun {H' o} hn b hb => by
    refine ⟨hn b hb, (I4.ok.exf b hb).1, I4.ok.exfs b hb, .inl hb, (I4.ok.exf b hb).2, fun p hp => ?_⟩
    have hp' : p ∈ ([] : List (Addr × Obj)) ++ [(D, o)] := hp
    have ep : p = (D, o) := by simpa using hp'
    subst ep
    exact hDfp b hb
  have loop : ∀ s₃ : Shared, s₃ = { s2 with heap := h₁, toks := s2.toks + ([] : List (Str × Value)).length } →
      codeAny (model X.prog X.w) X.A (.compLoop (.ListComp elt [⟨tg, iter, ifs, 0⟩] scope pos) 0 (.ref it) (.ref D) (compEnvC scope cl C X.env)) (RR (.ref D) C) s₃ := by
    rintro s₃ rfl
    refine compLoop_any (fun m s' => ∃ i acc H its n, Inv (cxComp X N' scope cl C s2 H2 fp) [(D, { cls := .type "list", data := .seq its.toArray n })] (pick tgs.length outs σ) H s' ∧ tn i s'.heap ∧ (∀ b ∈ fp, H b = none) ∧ Vals acc its ∧ W i m acc H) ?_ m0
      ⟨0, [], H2, [], 0, pinD I4 hacc fresh2, st1, fun b hb => (f2 b hb).1, .nil, w0⟩
    rintro m s' ⟨i, acc, H, its, n, I', st', fr', rD, w'⟩
    rcases turn i m acc H w' with ⟨stop, hz, q⟩ | ⟨go, hz, N, hN, step⟩
    · refine thn (T.done (cxComp X N' scope cl C s2 H2 fp) rfl rfl rfl hc i _ s' _ H _ I' (stat fr') st' stop) fun r s4 ⟨hr, J4⟩ => ?_
      subst hr
      obtain ⟨eD, nD, _⟩ := J4.pin (D, { cls := .type "list", data := .seq its.toArray n }) (List.mem_append_right _ List.mem_cons_self)
      obtain ⟨mC, nsC, _⟩ := J4.loc
      have I5 : Inv X pins σ (upd H D (.lst acc)) s4 := comp_end (D := D) I2 (J4.pins_of (pins' := []) (fun p hp => nomatch hp)) f2 (by rw [hDD]; exact Nat.le_refl _) eD rD hz nD
      refine fin D C s4 mC acc H I5 nD q nsC (I2.fpOk (by rw [hDD]; exact hCle) ?_)
      rw [upd_ne (Ne.symm hDC)]
      exact J4.free
    · refine thn (T.item (cxComp X N' scope cl C s2 H2 fp) rfl rfl rfl hc i _ s' _ H _ I' (stat fr') st' go) fun r s4 ⟨u, hr, h4⟩ => ?_
      subst hr
      dsimp only
      refine thn h4 fun _ s5 ⟨x, H5, I5, r5, y5, st5, fr5⟩ => ?_
      have I5' := I5.pinned (stat fr5) (T.obj _ _ st5)
      refine thn (hg cl C s2 H2 fp _ s5 _ H5 x u _ I5' r5 (hgt x _ H5 _ (step x H5 y5))) fun _ s6 ⟨σ6, H6, I6, q6, l6, k6⟩ => ?_
      refine thn (hcs cl C s2 H2 fp _ s6 σ6 H6 _ I6 q6) fun b s7 ⟨H7, I7, q7⟩ => ?_
      have tail : ∀ {H' : Hp} {s' : Shared}, Inv (cxComp X N' scope cl C s2 H2 fp) ([(D, { cls := .type "list", data := .seq its.toArray n })] ++ pinsAt fp s5.heap) σ6 H' s' → (∀ b ∈ fp, ∀ o, s5.heap.get? b = some o → s'.heap.get? b = some o) ∧ ∀ b ∈ fp, H' b = none := fun {H' s'} J =>
        ⟨fun b hb o e => (J.pin (b, o) (List.mem_append_right _ (List.mem_append_right _ (mem_pinsAt hb e)))).1, fun b hb => by
          obtain ⟨o, e, d⟩ := T.obj _ _ st5 b hb
          exact (J.pin (b, o) (List.mem_append_right _ (List.mem_append_right _ (mem_pinsAt hb e)))).2.1⟩
      cases b with
      | false =>
        rw [if_neg Bool.false_ne_true] at q7 ⊢
        obtain ⟨m', hm, w7⟩ := hN _ _ q7
        obtain ⟨t1, t2⟩ := tail I7
        exact ⟨m', hm, i + 1, acc, H7, its, n, I7.unpinned.weak l6.symm (pick_weak k6), T.keep _ _ _ st5 t1, t2, rD, w7⟩
      | true =>
        rw [if_pos rfl] at q7 ⊢
        refine thn (he cl C s2 H2 fp _ s7 σ6 H7 _ I7 q7) fun v s8 ⟨y, H8, I8, r8, q8⟩ => ?_
        obtain ⟨m', hm, w8⟩ := hN _ _ q8
        obtain ⟨t1, t2⟩ := tail I8
        obtain ⟨eD, nD, _⟩ := I8.pin (D, { cls := .type "list", data := .seq its.toArray n }) (List.mem_append_right _ (List.mem_append_left _ List.mem_cons_self))
        have hl := rD.length
        refine call_meets F.slot_list_append ⟨_, eD, rfl⟩ F.entry_list_append (F.args_list_append_2 _ _) (PySem.list_append D its.toArray n v (by rw [List.size_toArray]; omega)) ⟨eD, ?_⟩
        have q := PySem.IsL.update eD (·.push v)
        have eA : its.toArray.push v = (its ++ [v]).toArray := by simp
        rw [eA] at q
        refine ⟨m', hm, i + 1, acc ++ [y], H8, its ++ [v], _, pinD (Inv.weak (Inv.turned (it := D) (I8.pins_of (pins' := []) (fun p hp => nomatch hp)) (fun b o hb e => (Heap.get?_update_other _ _ (Ne.symm hb)).trans e) nD hDC (.inr (by show s2.heap.objs.size ≤ D; rw [hDD]; exact Nat.le_refl _)) (fun x c e z => ?_) (fun p hp => nomatch hp)) l6.symm (pick_weak k6)) q nD,
          T.keep _ _ _ st5 (fun b hb o e => (Heap.get?_update_other _ _ (hDfp b hb)).trans (t1 b hb o e)), t2, rD.append (.cons r8 .nil), w8⟩
        obtain ⟨v', oc, hoc, hdc⟩ := I8.cell x c e
        rw [z, eD] at hoc
        cases hoc
        cases hdc
  exact codeAny_compStart_list (loop _ rfl) (T.self X.A 0 _ _ _ st1 (loop _ rfl))
theorem pe_comp {N : List Str} (S : CompScope dsc scope N tgs outs N') (hi : PI X tg iter wi) (hg : ∀ cl C s H ex, PG (cxComp X N' scope cl C s H ex) tg g) (hgt : Tgt tgs.length g) (hcs : ∀ cl C s H ex, PCs (cxComp X N' scope cl C s H ex) ifs tc)
    (he : ∀ cl C s H ex, PE (cxComp X N' scope cl C s H ex) elt te) (hN0 : X.N = N := by rfl) (hsc : X.env.scope = dsc := by rfl) (hc : X.calm = true := by rfl) (hs : ∀ x, foldedSetIterable iter X.env x = pure x := by intro _; rfl) :
    PE X (.ListComp elt [⟨tg, iter, ifs, 0⟩] scope pos) (tComp tgs.length outs wi g tc te) := by
  subst hN0
  intro pins s σ H Q I h
  obtain ⟨cl, e1, e2, e3⟩ := closure_of (scope := scope) (env := X.env) (fun y hy hk => I.ok.has y.1 (.inl (by show X.env.scope.names.lookup y.1 = _; rw [hsc]; exact S.free y hy hk)))
  rw [eval_ListComp]
  refine wpAny_comprehension_free (use := none) rfl hs e1 S.kind S.names (wpAny_mono (hi pins s σ H _ I h) (fun xv s1 h1 => wpAny_mono h1 (fun itv s2 h2 => ?_) fun _ _ e => e) fun _ _ e => e)
  obtain ⟨it, fp, tn, J, H2, rfl, I2, T, st2, f2, W, ⟨m0, w0⟩, turn⟩ := h2
  refine comp_block (RR := fun acc C => compPost (model X.prog X.w) X.A X.xe none (EP X pins σ Q) acc C) S hsc hc hg hgt hcs he e2 e3 I2 T st2 f2 w0 (Qf := fun acc H => ∀ l, H l = none → Q (.ref l) (upd H l (.lst acc))) turn ?_
  intro D C s5 mC acc H5 I5 nD q nsC hf
  refine ⟨mC, nsC, fun h' hs' => ⟨.ref D, _, ?_, rfl, q D nD⟩⟩
  exact I5.turned (it := C) (t' := s5.toks) (fun b o hb e => (hs'.2 b hb).trans e) hf.1 hf.2.1 hf.2.2.2.1 hf.2.2.2.2.1 hf.2.2.2.2.2
theorem ps_setC {N : List Str} {i : Nat} {x : Str} {px spos : Pos} (hN : X.N.Nodup) (hx : X.N[i]? = some x) (hl : X.env.scope.names.lookup x = some .local) (S : CompScope dsc scope N tgs outs N') (hi : PI X tg iter wi) (hg : ∀ cl C s H ex, PG (cxComp X N' scope cl C s H ex) tg g) (hgt : Tgt tgs.length g)
    (hcs : ∀ cl C s H ex, PCs (cxComp X N' scope cl C s H ex) ifs tc) (he : ∀ cl C s H ex, PE (cxComp X N' scope cl C s H ex) elt te)
    (hsw : swapsWith (.ListComp elt [⟨tg, iter, ifs, 0⟩] scope pos) (some (.Name x px)) spos.line X.env = pure true := by rfl)
    (hN0 : X.N = N := by rfl) (hsc : X.env.scope = dsc := by rfl) (hc : X.calm = true := by rfl) (hs : ∀ x, foldedSetIterable iter X.env x = pure x := by intro _; rfl) :
    PS X (.Assign [.Name x px] (.ListComp elt [⟨tg, iter, ifs, 0⟩] scope pos) spos) (tAsg (tComp tgs.length outs wi g tc te) (gName i)) := by
  subst hN0
  intro pins s σ H Dn I h
  obtain ⟨cl, e1, e2, e3⟩ := closure_of (scope := scope) (env := X.env) (fun y hy hk => I.ok.has y.1 (.inl (by show X.env.scope.names.lookup y.1 = _; rw [hsc]; exact S.free y hy hk)))
  rw [exec_Assign_Name_used _ _ _ _ hsw]
  refine wpAny_bind (wpAny_standAt (wpAny_bind ?_))
  show wpAny _ X.A (do let _ ← comprehension (.ListComp elt [⟨tg, iter, ifs, 0⟩] scope pos) scope X.env _ (newList []) false (eval iter X.env) (some (assign (.Name x px) X.env))) _ _ s
  refine wpAny_bind (wpAny_mono (wpAny_comprehension_free (use := some (assign (.Name x px) X.env)) (Q := fun _ s' => SP X pins Dn .next s') rfl hs e1 S.kind S.names
    (wpAny_mono (hi pins s σ H _ I h) (fun xv s1 h1 => wpAny_mono h1 (fun itv s2 h2 => ?_) fun _ _ e => e) fun _ _ e => e)) (fun _ s' hq => wpAny_pure (wpAny_pure hq)) fun _ _ e => e)
  obtain ⟨it, fp, tn, J, H2, rfl, I2, T, st2, f2, W, ⟨m0, w0⟩, turn⟩ := h2
  refine comp_block (RR := fun acc C => compPost (model X.prog X.w) X.A X.xe (some (assign (.Name x px) X.env)) (fun _ s' => SP X pins Dn .next s') acc C) S hsc hc hg hgt hcs he e2 e3 I2 T st2 f2 w0
    (Qf := fun acc H => ∀ l, H l = none → Dn.nx (σ.set i (some (.ref l))) (upd H l (.lst acc))) turn ?_
  intro D C s5 mC acc H5 I5 nD q nsC hf
  show wpAny _ X.A (assign (.Name x px) X.env (.ref D)) _ _ _
  refine wpAny_assign_Name (store_ok2 I5 hN hx (.inl hl) (show RelV (.ref D) (.ref D) from rfl) (fun s' I' ⟨a, sb, ha⟩ => ?_) (.inr hl))
  have hCa : C ≠ a := by
    rcases ha with ha | ha
    · rw [ha]; exact hf.2.1
    · exact Ne.symm (hf.2.2.2.2.1 x a ha)
  refine ⟨mC, nsC.sameBut sb hCa, fun h' hs' => ⟨_, _, I'.turned (it := C) (t' := s'.toks) (fun b o hb e => (hs'.2 b hb).trans e) hf.1 hf.2.1 hf.2.2.2.1 hf.2.2.2.2.1 hf.2.2.2.2.2, q D nD⟩⟩
end

theorem comp_list {K : PySem.W.Frag} {a : Addr} {xs : List V} {g : TG} {tc : TT} {te : TE} {σ' : St} {H1 : Hp} {Fin : List V → Hp → Prop} (Pv : Nat → List V → Hp → Prop) (hz : xs.length ≤ 1000000) (h0 : Pv 0 [] H1) (hl : ∀ i acc H, i ≤ xs.length → Pv i acc H → SqL K H a xs ∧ acc.length ≤ i)
    (hs : ∀ i x acc H, xs[i]? = some x → Pv i acc H → g x σ' H fun σ2 H2 => tc σ2 H2 fun b H3 => if b = true then te σ2 H3 fun y H4 => Pv (i + 1) (acc ++ [y]) H4 else Pv (i + 1) acc H3) (hd : ∀ acc H, Pv xs.length acc H → Fin acc H) :
    ∃ W : Nat → Nat → List V → Hp → Prop, (∃ m, W 0 m [] H1) ∧ ∀ i m acc H, W i m acc H → ((Itl K a).stop i H ∧ acc.length ≤ sizeLine ∧ Fin acc H) ∨
      ((Itl K a).go i H ∧ acc.length < sizeLine ∧ ∃ N : List V → Hp → Prop, (∀ acc' H', N acc' H' → ∃ m', m' < m ∧ W (i + 1) m' acc' H') ∧ ∀ x H', (Itl K a).yld i H x H' → g x σ' H' fun σ2 H2 => tc σ2 H2 fun b H3 => if b = true then te σ2 H3 fun y H4 => N (acc ++ [y]) H4 else N acc H3) := by
  have zl : (1000000 : Nat) < sizeLine := by rw [sizeLine_eq]; decide
  refine ⟨fun i m acc H => m = xs.length - i ∧ i ≤ xs.length ∧ Pv i acc H, ⟨xs.length, by simp, Nat.zero_le _, h0⟩, ?_⟩
  rintro i m acc H ⟨rfl, hi, p⟩
  obtain ⟨q, al⟩ := hl i acc H hi p
  by_cases hlt : i < xs.length
  · refine .inr ⟨⟨xs, xs[i], q, by simp [hlt]⟩, by omega, Pv (i + 1), fun acc' H' p' => ⟨xs.length - (i + 1), by omega, rfl, hlt, p'⟩, fun x H' y => ?_⟩
    obtain ⟨e, y⟩ := y
    subst e
    exact hs i x acc _ (y xs q) p
  · have e : i = xs.length := by omega
    subst e
    exact .inl ⟨⟨xs, q, Nat.le_refl _⟩, by omega, hd acc H p⟩
theorem comp_tup {K : PySem.W.Frag} {a : Addr} {xs : List V} {g : TG} {tc : TT} {te : TE} {σ' : St} {H1 : Hp} {Fin : List V → Hp → Prop} (Pv : Nat → List V → Hp → Prop) (hz : xs.length ≤ 1000000) (h0 : Pv 0 [] H1) (hl : ∀ i acc H, i ≤ xs.length → Pv i acc H → SqT K H a xs ∧ acc.length ≤ i)
    (hs : ∀ i x acc H, xs[i]? = some x → Pv i acc H → g x σ' H fun σ2 H2 => tc σ2 H2 fun b H3 => if b = true then te σ2 H3 fun y H4 => Pv (i + 1) (acc ++ [y]) H4 else Pv (i + 1) acc H3) (hd : ∀ acc H, Pv xs.length acc H → Fin acc H) :
    ∃ W : Nat → Nat → List V → Hp → Prop, (∃ m, W 0 m [] H1) ∧ ∀ i m acc H, W i m acc H → ((Itt K a).stop i H ∧ acc.length ≤ sizeLine ∧ Fin acc H) ∨
      ((Itt K a).go i H ∧ acc.length < sizeLine ∧ ∃ N : List V → Hp → Prop, (∀ acc' H', N acc' H' → ∃ m', m' < m ∧ W (i + 1) m' acc' H') ∧ ∀ x H', (Itt K a).yld i H x H' → g x σ' H' fun σ2 H2 => tc σ2 H2 fun b H3 => if b = true then te σ2 H3 fun y H4 => N (acc ++ [y]) H4 else N acc H3) := by
  have zl : (1000000 : Nat) < sizeLine := by rw [sizeLine_eq]; decide
  refine ⟨fun i m acc H => m = xs.length - i ∧ i ≤ xs.length ∧ Pv i acc H, ⟨xs.length, by simp, Nat.zero_le _, h0⟩, ?_⟩
  rintro i m acc H ⟨rfl, hi, p⟩
  obtain ⟨q, al⟩ := hl i acc H hi p
  by_cases hlt : i < xs.length
  · refine .inr ⟨⟨xs, xs[i], q, by simp [hlt]⟩, by omega, Pv (i + 1), fun acc' H' p' => ⟨xs.length - (i + 1), by omega, rfl, hlt, p'⟩, fun x H' y => ?_⟩
    obtain ⟨e, y⟩ := y
    subst e
    exact hs i x acc _ (y xs q) p
  · have e : i = xs.length := by omega
    subst e
    exact .inl ⟨⟨xs, q, Nat.le_refl _⟩, by omega, hd acc H p⟩
theorem comp_range {lo : Int} {n : Nat} {g : TG} {tc : TT} {te : TE} {σ' : St} {H1 : Hp} {Fin : List V → Hp → Prop} (Pv : Nat → List V → Hp → Prop) (hz : n ≤ 1000000) (h0 : Pv 0 [] H1) (hl : ∀ i acc H, i ≤ n → Pv i acc H → acc.length ≤ i)
    (hs : ∀ i acc H, i < n → Pv i acc H → g (.int (lo + i)) σ' H fun σ2 H2 => tc σ2 H2 fun b H3 => if b = true then te σ2 H3 fun y H4 => Pv (i + 1) (acc ++ [y]) H4 else Pv (i + 1) acc H3) (hd : ∀ acc H, Pv n acc H → Fin acc H) :
    ∃ W : Nat → Nat → List V → Hp → Prop, (∃ m, W 0 m [] H1) ∧ ∀ i m acc H, W i m acc H → ((Itr lo n).stop i H ∧ acc.length ≤ sizeLine ∧ Fin acc H) ∨
      ((Itr lo n).go i H ∧ acc.length < sizeLine ∧ ∃ N : List V → Hp → Prop, (∀ acc' H', N acc' H' → ∃ m', m' < m ∧ W (i + 1) m' acc' H') ∧ ∀ x H', (Itr lo n).yld i H x H' → g x σ' H' fun σ2 H2 => tc σ2 H2 fun b H3 => if b = true then te σ2 H3 fun y H4 => N (acc ++ [y]) H4 else N acc H3) := by
  have zl : (1000000 : Nat) < sizeLine := by rw [sizeLine_eq]; decide
  refine ⟨fun i m acc H => m = n - i ∧ i ≤ n ∧ Pv i acc H, ⟨n, by simp, Nat.zero_le _, h0⟩, ?_⟩
  rintro i m acc H ⟨rfl, hi, p⟩
  have al := hl i acc H hi p
  by_cases hlt : i < n
  · refine .inr ⟨hlt, by omega, Pv (i + 1), fun acc' H' p' => ⟨n - (i + 1), by omega, rfl, hlt, p'⟩, fun x H' y => ?_⟩
    obtain ⟨e, y⟩ := y
    subst e y
    exact hs i acc _ hlt p
  · have e : i = n := by omega
    subst e
    exact .inl ⟨Nat.le_refl _, by omega, hd acc H p⟩
end L2

set_option Elab.async false
set_option linter.all false
set_option maxRecDepth 100000
set_option maxHeartbeats 4000000
namespace L2
open PySem PySem.Spec PyProof.Rows
def SIter (t : Bool) (h : Heap) (it l : Addr) (k : Nat) : Prop := if t = true then h.IsTupleIter it l k else h.IsListIter it l k
def SSeq (t : Bool) (h : Heap) (l : Addr) (xs : Array Value) : Prop := if t = true then h.IsTuple l xs else h.IsList l xs
theorem SIter.obj {t : Bool} {h : Heap} {it l : Addr} {k : Nat} (x : SIter t h it l k) : ∃ o, h.get? it = some o ∧ ∀ v, o.data ≠ .cell v := by
  cases t
  · obtain ⟨o, e, _, d⟩ := (show h.IsListIter it l k from x); exact ⟨o, e, fun v z => by rw [d] at z; cases z⟩
  · obtain ⟨o, e, _, d⟩ := (show h.IsTupleIter it l k from x); exact ⟨o, e, fun v z => by rw [d] at z; cases z⟩
theorem SIter.to {t : Bool} {h h' : Heap} {it l : Addr} {k : Nat} (x : SIter t h it l k) (e : ∀ o, h.get? it = some o → h'.get? it = some o) : SIter t h' it l k := by
  cases t
  · obtain ⟨o, a, r⟩ := (show h.IsListIter it l k from x); exact ⟨o, e o a, r⟩
  · obtain ⟨o, a, r⟩ := (show h.IsTupleIter it l k from x); exact ⟨o, e o a, r⟩
theorem SSeq.to {t : Bool} {h h' : Heap} {l : Addr} {xs : Array Value} (x : SSeq t h l xs) (e : ∀ o, h.get? l = some o → h'.get? l = some o) : SSeq t h' l xs := by
  cases t
  · obtain ⟨o, a, r⟩ := (show h.IsList l xs from x); exact ⟨o, e o a, r⟩
  · obtain ⟨o, a, r⟩ := (show h.IsTuple l xs from x); exact ⟨o, e o a, r⟩
section
variable {prog : Program} {w : World} {A : Around} {E : Value → Shared → Prop} {s : Shared}
theorem nextOf_tup {it l : Addr} {i : Nat} {items : Array Value} {x : Value} {Q : Value → Shared → Prop} (hit : s.heap.IsTupleIter it l i) (hl : s.heap.IsTuple l items) (hx : items[i]? = some x)
    (hQ : ∀ h', h'.IsTupleIter it l (i + 1) → Heap.SameBut it s.heap h' → Q x { s with heap := h' }) : wpAny (model prog w) A (Builtin.SmallTypes.nextOf (.ref it)) Q E s := by
  obtain ⟨o, ho, hc, hd⟩ := id hit; obtain ⟨ol, hol, _, nl, hdl⟩ := hl
  unfold Builtin.SmallTypes.nextOf
  refine wpAny_bind (wpAny_callSpecial?_slot (name := Str.ofString "__next__") hit.typeIs F.slot_tuple_iterator_next (wpAny_call_entry F.slot_tuple_iterator_next hit.typeIs F.entry_tuple_iterator_next ?_ (F.args_tuple_iterator_next_1 _)))
  show wpAny _ _ (field (.ref it) 0 >>= _) _ _ s; refine wpAny_bind (wpAny_field ho hd (x := .ref l) rfl ?_)
  show wpAny _ _ (if (Value.ref l == Value.none) = true then _ else _) _ _ s; rw [if_neg (show ¬ ((Value.ref l == Value.none) = true) from Bool.false_ne_true)]
  show wpAny _ _ (field (.ref it) 1 >>= _) _ _ s; refine wpAny_bind (wpAny_field ho hd (x := .int i 0) rfl ?_)
  show wpAny _ _ (seqItems? (.ref l) >>= _) _ _ s; refine wpAny_bind (wpAny_seqItems hol hdl ?_); simp only [Int.toNat_natCast, hx]
  exact wpAny_bind (wpAny_setField ho hd (by simp) (wpAny_pure ⟨x, rfl, wpAny_pure (hQ _ ⟨_, Heap.get?_update_self _ ho (Obj.isFreed_of_fields (Obj.data_mapFields hd _)), (Obj.cls_mapFields ..).trans hc, by rw [Obj.data_mapFields hd]; simp [rawInt]⟩ (Heap.SameBut.update ..))⟩))
theorem nextOf_tupE {it l : Addr} {i : Nat} {items : Array Value} {Q : Value → Shared → Prop} (hh : A.handled = none) (hit : s.heap.IsTupleIter it l i) (hl : s.heap.IsTuple l items) (hx : items[i]? = none)
    (hE : ∀ h' e, Heap.ExtBut it s.heap h' → (∃ o, h'.get? e = some o ∧ o.cls = .type "StopIteration") → E (.ref e) { s with heap := h' }) : wpAny (model prog w) A (Builtin.SmallTypes.nextOf (.ref it)) Q E s := by
  obtain ⟨o, ho, hc, hd⟩ := id hit; obtain ⟨ol, hol, _, nl, hdl⟩ := hl
  unfold Builtin.SmallTypes.nextOf
  refine wpAny_bind (wpAny_callSpecial?_slot (name := Str.ofString "__next__") hit.typeIs F.slot_tuple_iterator_next (wpAny_call_entry F.slot_tuple_iterator_next hit.typeIs F.entry_tuple_iterator_next ?_ (F.args_tuple_iterator_next_1 _)))
  show wpAny _ _ (field (.ref it) 0 >>= _) _ _ s; refine wpAny_bind (wpAny_field ho hd (x := .ref l) rfl ?_)
  show wpAny _ _ (if (Value.ref l == Value.none) = true then _ else _) _ _ s; rw [if_neg (show ¬ ((Value.ref l == Value.none) = true) from Bool.false_ne_true)]
  show wpAny _ _ (field (.ref it) 1 >>= _) _ _ s; refine wpAny_bind (wpAny_field ho hd (x := .int i 0) rfl ?_)
  show wpAny _ _ (seqItems? (.ref l) >>= _) _ _ s; refine wpAny_bind (wpAny_seqItems hol hdl ?_); simp only [Int.toNat_natCast, hx]
  refine wpAny_bind (wpAny_rule (wpAny_bind (wpAny_setField ho hd (by simp) ?_))); show wpAny _ _ (newExc (.type "StopIteration") [] >>= _) _ _ _
  refine wpAny_bind ?_; simp only [newExc, newTuple]; refine wpAny_bind (wpAny_newObj_type ?_ (by size_fits))
  refine wpAny_bind (m := firstArgMember _ _) (wpAny_of_eq (a := Value.none) (by first | rfl | (simp only [firstArgMember]; rfl)) ?_); refine wpAny_newObj_type ?_ (by size_fits); simp only [raiseNew]
  refine wpAny_bind (wpAny_handled ?_); first | rw [show A.in1.handled = none from hh] | rw [hh]
  refine wpAny_bind (wpAny_pure (wpAny_throw ?_)); exact hE _ _ (((Heap.SameBut.update ..).extBut.push _).push _) ⟨_, Heap.get?_push_size _ rfl, rfl⟩
theorem nextOf_s {t : Bool} {it l : Addr} {i : Nat} {items : Array Value} {x : Value} {Q : Value → Shared → Prop} (hit : SIter t s.heap it l i) (hl : SSeq t s.heap l items) (hx : items[i]? = some x)
    (hQ : ∀ h', SIter t h' it l (i + 1) → Heap.SameBut it s.heap h' → Q x { s with heap := h' }) : wpAny (model prog w) A (Builtin.SmallTypes.nextOf (.ref it)) Q E s := by
  cases t
  · exact wpAny_nextOf_list_item hit hl hx hQ
  · exact nextOf_tup hit hl hx hQ
theorem nextOf_sE {t : Bool} {it l : Addr} {i : Nat} {items : Array Value} {Q : Value → Shared → Prop} (hh : A.handled = none) (hit : SIter t s.heap it l i) (hl : SSeq t s.heap l items) (hx : items[i]? = none)
    (hE : ∀ h' e, Heap.ExtBut it s.heap h' → (∃ o, h'.get? e = some o ∧ o.cls = .type "StopIteration") → E (.ref e) { s with heap := h' }) : wpAny (model prog w) A (Builtin.SmallTypes.nextOf (.ref it)) Q E s := by
  cases t
  · exact wpAny_nextOf_list_end hh hit hl hx hE
  · exact nextOf_tupE hh hit hl hx hE
theorem zipS_item {t1 t2 : Bool} {z TI TO i1 i2 l1 l2 : Addr} {k1 k2 : Nat} {xs ys : Array Value} {x y a b : Value} {Q : Value → Shared → Prop} (D : ZipApart z TI TO i1 i2 l1 l2)
    (hz : IsZip s.heap z TI TO .none) (hTI : IsPair s.heap TI (.ref i1) (.ref i2)) (hTO : IsPair s.heap TO a b)
    (h1 : SIter t1 s.heap i1 l1 k1) (h2 : SIter t2 s.heap i2 l2 k2) (hl1 : SSeq t1 s.heap l1 xs) (hl2 : SSeq t2 s.heap l2 ys) (hx : xs[k1]? = some x) (hy : ys[k2]? = some y)
    (hQ : ∀ h', IsZip h' z TI TO (rawInt s.heap.objs.size) → IsPair h' TO x y → SIter t1 h' i1 l1 (k1 + 1) → SIter t2 h' i2 l2 (k2 + 1) → IsPair h' s.heap.objs.size x y → h'.objs.size = s.heap.objs.size + 1 →
      (∀ c o, c ≠ z → c ≠ TO → c ≠ i1 → c ≠ i2 → s.heap.get? c = some o → h'.get? c = some o) → Q (.ref s.heap.objs.size) { s with heap := h' }) :
    wpAny (model prog w) A (Builtin.«zip.__next__» ⟨[.ref z], []⟩) (fun fin s' => ∃ v, fin = .done (.ret v) ∧ Q v s') E s := by
  show wpAny _ _ (field (.ref z) 2 >>= _) _ _ _; refine wpAny_bind (wpAny_field hz rfl (x := .bool false) rfl ?_)
  show wpAny _ _ (field (.ref z) 3 >>= _) _ _ _; refine wpAny_bind (wpAny_field hz rfl (x := .ref TI) rfl ?_); refine wpAny_bind (wpAny_seqItems hTI rfl ?_)
  show wpAny _ _ (Builtin.SmallTypes.ownedTupleIsFree (.ref z) >>= _) _ _ _; refine wpAny_bind ?_; unfold Builtin.SmallTypes.ownedTupleIsFree
  refine wpAny_bind (wpAny_field hz rfl (x := .none) rfl (wpAny_pure ?_)); simp only [if_true]; refine wpAny_bind (wpAny_rule ?_)
  refine wpAny_bind (wpAny_field hz rfl (x := .ref TO) rfl ?_); refine wpAny_bind (wpAny_setField_rec hz (by simp) fun q1 hz₁ s1 => ?_); replace hz₁ : IsZip q1 z TI TO .ellipsis := hz₁
  refine wpAny_bind ?_; simp only [List.zipIdx_cons, List.zipIdx_nil, List.forIn_cons, List.forIn_nil]
  refine wpAny_bind (wpAny_bind (wpAny_onRaise ?_)); show wpAny _ _ (Builtin.SmallTypes.nextOf (.ref i1) >>= _) _ _ _
  refine wpAny_bind (nextOf_s (h1.to fun o e => s1.extBut _ _ D.i1z e) (hl1.to fun o e => s1.extBut _ _ D.l1z e) hx fun q2 a2 s2 => wpAny_pure ?_)
  have b2 : IsPair q2 TO a b := s2.extBut _ _ D.TOi1 (s1.extBut _ _ D.TOz hTO)
  refine wpAny_bind (wpAny_seqItems b2 rfl ?_); refine wpAny_bind (wpAny_updateSeq_pair b2 fun q3 b3 s3 => ?_); replace b3 : IsPair q3 TO x b := b3
  refine wpAny_bind (wpAny_letGo (wpAny_pure ?_)); refine wpAny_bind (wpAny_bind (wpAny_onRaise ?_)); show wpAny _ _ (Builtin.SmallTypes.nextOf (.ref i2) >>= _) _ _ _
  refine wpAny_bind (nextOf_s (h2.to fun o e => s3.extBut _ _ D.TOi2.symm (s2.extBut _ _ D.i12.symm (s1.extBut _ _ D.i2z e))) (hl2.to fun o e => s3.extBut _ _ D.l2TO (s2.extBut _ _ D.l2i1 (s1.extBut _ _ D.l2z e))) hy fun q4 a4 s4 => wpAny_pure ?_)
  have b4 : IsPair q4 TO x b := s4.extBut _ _ D.TOi2 b3
  refine wpAny_bind (wpAny_seqItems b4 rfl ?_); refine wpAny_bind (wpAny_updateSeq_pair b4 fun q5 b5 s5 => ?_); replace b5 : IsPair q5 TO x y := b5
  refine wpAny_bind (wpAny_letGo (wpAny_pure (wpAny_pure ?_))); refine wpAny_bind (wpAny_seqItems b5 rfl ?_); refine wpAny_bind (wpAny_newTuple ?_)
  have hsz : q5.objs.size = s.heap.objs.size := by rw [s5.1, s4.1, s3.1, s2.1, s1.1]
  have z5 : IsZip q5 z TI TO .ellipsis := s5.extBut _ _ D.TOz.symm (s4.extBut _ _ D.i2z.symm (s3.extBut _ _ D.TOz.symm (s2.extBut _ _ D.i1z.symm hz₁)))
  have k5 : ∀ c o, c ≠ z → c ≠ TO → c ≠ i1 → c ≠ i2 → s.heap.get? c = some o → q5.get? c = some o := fun c o c1 c2 c3 c4 e => s5.extBut _ _ c2 (s4.extBut _ _ c4 (s3.extBut _ _ c2 (s2.extBut _ _ c3 (s1.extBut _ _ c1 e))))
  have d1 : SIter t1 q5 i1 l1 (k1 + 1) := a2.to fun o e => s5.extBut _ _ D.TOi1.symm (s4.extBut _ _ D.i12 (s3.extBut _ _ D.TOi1.symm e))
  have d2 : SIter t2 q5 i2 l2 (k2 + 1) := a4.to fun o e => s5.extBut _ _ D.TOi2.symm e
  have zlt : z < q5.objs.size := Heap.lt_size z5
  show wpAny _ _ (Builtin.SmallTypes.ownedTupleHandOut (.ref z) (.ref q5.objs.size) >>= _) _ _ _; refine wpAny_bind ?_; unfold Builtin.SmallTypes.ownedTupleHandOut
  have z6 : IsZip (q5.push { cls := .type "tuple", data := .seq #[x, y] }) z TI TO .ellipsis := Heap.get?_push_of_some _ z5
  refine wpAny_bind (wpAny_setField_rec z6 (by simp) fun q7 z7 s7 => ?_); replace z7 : IsZip q7 z TI TO (rawInt q5.objs.size) := z7
  refine wpAny_setField_rec z7 (by simp) fun q8 z8 s8 => ?_; replace z8 : IsZip q8 z TI TO (rawInt q5.objs.size) := z8
  have up : ∀ c o, c ≠ z → q5.get? c = some o → q8.get? c = some o := fun c o c1 e => s8.extBut _ _ c1 (s7.extBut _ _ c1 (Heap.get?_push_of_some _ e))
  have t8 : IsPair q8 q5.objs.size x y := s8.extBut _ _ (Nat.ne_of_gt zlt) (s7.extBut _ _ (Nat.ne_of_gt zlt) (Heap.get?_push_size _ rfl))
  have n8 : q8.objs.size = q5.objs.size + 1 := by rw [s8.1, s7.1, Heap.size_push]
  rw [hsz] at z8 t8 n8; refine wpAny_pure ⟨_, rfl, ?_⟩; show Q (.ref q5.objs.size) _; rw [hsz]
  exact hQ q8 z8 (up _ _ D.TOz b5) (d1.to fun o e => up _ o D.i1z e) (d2.to fun o e => up _ o D.i2z e) t8 n8 fun c o c1 c2 c3 c4 e => up c o c1 (k5 c o c1 c2 c3 c4 e)
theorem zipS_end {t1 t2 : Bool} {z TI TO i1 i2 l1 l2 : Addr} {k1 k2 : Nat} {xs ys : Array Value} {a b : Value} {Q : Fin → Shared → Prop} (hh : A.handled = none) (D : ZipApart z TI TO i1 i2 l1 l2)
    (hz : IsZip s.heap z TI TO .none) (hTI : IsPair s.heap TI (.ref i1) (.ref i2)) (hTO : IsPair s.heap TO a b)
    (h1 : SIter t1 s.heap i1 l1 k1) (h2 : SIter t2 s.heap i2 l2 k2) (hl1 : SSeq t1 s.heap l1 xs) (hl2 : SSeq t2 s.heap l2 ys) (hend : xs[k1]? = none ∨ ys[k2]? = none)
    (hE : ∀ h' e, (∀ c o, c ≠ z → c ≠ TO → c ≠ i1 → c ≠ i2 → s.heap.get? c = some o → h'.get? c = some o) → (∃ o, h'.get? e = some o ∧ o.cls = .type "StopIteration") → E (.ref e) { s with heap := h' }) :
    wpAny (model prog w) A (Builtin.«zip.__next__» ⟨[.ref z], []⟩) Q E s := by
  show wpAny _ _ (field (.ref z) 2 >>= _) _ _ _; refine wpAny_bind (wpAny_field hz rfl (x := .bool false) rfl ?_)
  show wpAny _ _ (field (.ref z) 3 >>= _) _ _ _; refine wpAny_bind (wpAny_field hz rfl (x := .ref TI) rfl ?_); refine wpAny_bind (wpAny_seqItems hTI rfl ?_)
  show wpAny _ _ (Builtin.SmallTypes.ownedTupleIsFree (.ref z) >>= _) _ _ _; refine wpAny_bind ?_; unfold Builtin.SmallTypes.ownedTupleIsFree
  refine wpAny_bind (wpAny_field hz rfl (x := .none) rfl (wpAny_pure ?_)); simp only [if_true]; refine wpAny_bind (wpAny_rule ?_)
  refine wpAny_bind (wpAny_field hz rfl (x := .ref TO) rfl ?_); refine wpAny_bind (wpAny_setField_rec hz (by simp) fun q1 hz₁ s1 => ?_); replace hz₁ : IsZip q1 z TI TO .ellipsis := hz₁
  refine wpAny_bind ?_; simp only [List.zipIdx_cons, List.zipIdx_nil, List.forIn_cons, List.forIn_nil]
  refine wpAny_bind (wpAny_bind (wpAny_onRaise ?_)); show wpAny _ _ (Builtin.SmallTypes.nextOf (.ref i1) >>= _) _ _ _
  cases hx : xs[k1]? with
  | none =>
    refine wpAny_bind (nextOf_sE hh (h1.to fun o e => s1.extBut _ _ D.i1z e) (hl1.to fun o e => s1.extBut _ _ D.l1z e) hx fun q2 e s2 he => ?_)
    obtain ⟨oe, hoe, hce⟩ := he
    have z2 : IsZip q2 z TI TO .ellipsis := s2 _ _ D.i1z.symm hz₁
    have ez : e ≠ z := fun x => by subst x; rw [z2] at hoe; cases hoe; simp at hce
    exact wpAny_setField_rec z2 (by simp) fun q3 _ s3 => hE q3 e (fun c o c1 _ c3 _ x => s3.extBut _ _ c1 (s2 _ _ c3 (s1.extBut _ _ c1 x))) ⟨oe, s3.extBut _ _ ez hoe, hce⟩
  | some x =>
    have hy : ys[k2]? = none := by rcases hend with h | h; rw [hx] at h; cases h; exact h
    refine wpAny_bind (nextOf_s (h1.to fun o e => s1.extBut _ _ D.i1z e) (hl1.to fun o e => s1.extBut _ _ D.l1z e) hx fun q2 a2 s2 => wpAny_pure ?_)
    have b2 : IsPair q2 TO a b := s2.extBut _ _ D.TOi1 (s1.extBut _ _ D.TOz hTO)
    refine wpAny_bind (wpAny_seqItems b2 rfl ?_); refine wpAny_bind (wpAny_updateSeq_pair b2 fun q3 b3 s3 => ?_)
    refine wpAny_bind (wpAny_letGo (wpAny_pure ?_)); refine wpAny_bind (wpAny_bind (wpAny_onRaise ?_)); show wpAny _ _ (Builtin.SmallTypes.nextOf (.ref i2) >>= _) _ _ _
    refine wpAny_bind (nextOf_sE hh (h2.to fun o e => s3.extBut _ _ D.TOi2.symm (s2.extBut _ _ D.i12.symm (s1.extBut _ _ D.i2z e))) (hl2.to fun o e => s3.extBut _ _ D.l2TO (s2.extBut _ _ D.l2i1 (s1.extBut _ _ D.l2z e))) hy fun q4 e s4 he => ?_)
    obtain ⟨oe, hoe, hce⟩ := he
    have z4 : IsZip q4 z TI TO .ellipsis := s4 _ _ D.i2z.symm (s3.extBut _ _ D.TOz.symm (s2.extBut _ _ D.i1z.symm hz₁))
    have ez : e ≠ z := fun x => by subst x; rw [z4] at hoe; cases hoe; simp at hce
    exact wpAny_setField_rec z4 (by simp) fun q5 _ s5 => hE q5 e (fun c o c1 c2 c3 c4 x => s5.extBut _ _ c1 (s4 _ _ c4 (s3.extBut _ _ c2 (s2.extBut _ _ c3 (s1.extBut _ _ c1 x))))) ⟨oe, s5.extBut _ _ ez hoe, hce⟩
theorem pyNext_zipS {t1 t2 : Bool} {z TI TO i1 i2 l1 l2 : Addr} {k1 k2 : Nat} {xs ys : Array Value} {x y a b : Value} {Q : Option Value → Shared → Prop} (D : ZipApart z TI TO i1 i2 l1 l2)
    (hz : IsZip s.heap z TI TO .none) (hTI : IsPair s.heap TI (.ref i1) (.ref i2)) (hTO : IsPair s.heap TO a b)
    (h1 : SIter t1 s.heap i1 l1 k1) (h2 : SIter t2 s.heap i2 l2 k2) (hl1 : SSeq t1 s.heap l1 xs) (hl2 : SSeq t2 s.heap l2 ys) (hx : xs[k1]? = some x) (hy : ys[k2]? = some y)
    (hQ : ∀ h', IsZip h' z TI TO (rawInt s.heap.objs.size) → IsPair h' TO x y → SIter t1 h' i1 l1 (k1 + 1) → SIter t2 h' i2 l2 (k2 + 1) → IsPair h' s.heap.objs.size x y → h'.objs.size = s.heap.objs.size + 1 →
      (∀ c o, c ≠ z → c ≠ TO → c ≠ i1 → c ≠ i2 → s.heap.get? c = some o → h'.get? c = some o) → Q (some (.ref s.heap.objs.size)) { s with heap := h' }) :
    wpAny (model prog w) A (pyNext (.ref z)) Q E s := by
  have hT : s.TypeIs (.ref z) "zip" := ⟨_, hz, rfl⟩
  unfold pyNext
  exact wpAny_bind (wpAny_attempt (wpAny_callSpecial?_slot (name := Str.ofString "__next__") hT F.slot_zip_next (wpAny_call_entry F.slot_zip_next hT F.entry_zip_next (zipS_item D hz hTI hTO h1 h2 hl1 hl2 hx hy fun h' a1 a2 a3 a4 a5 a6 a7 => wpAny_pure (hQ h' a1 a2 a3 a4 a5 a6 a7)) (F.args_zip_next_1 _))))
theorem pyNext_zipSE {t1 t2 : Bool} {z TI TO i1 i2 l1 l2 : Addr} {k1 k2 : Nat} {xs ys : Array Value} {a b : Value} {Q : Option Value → Shared → Prop} (hh : A.handled = none) (D : ZipApart z TI TO i1 i2 l1 l2)
    (hz : IsZip s.heap z TI TO .none) (hTI : IsPair s.heap TI (.ref i1) (.ref i2)) (hTO : IsPair s.heap TO a b)
    (h1 : SIter t1 s.heap i1 l1 k1) (h2 : SIter t2 s.heap i2 l2 k2) (hl1 : SSeq t1 s.heap l1 xs) (hl2 : SSeq t2 s.heap l2 ys) (hend : xs[k1]? = none ∨ ys[k2]? = none)
    (hQ : ∀ h', (∀ c o, c ≠ z → c ≠ TO → c ≠ i1 → c ≠ i2 → s.heap.get? c = some o → h'.get? c = some o) → Q none { s with heap := h' }) : wpAny (model prog w) A (pyNext (.ref z)) Q E s := by
  have hT : s.TypeIs (.ref z) "zip" := ⟨_, hz, rfl⟩
  unfold pyNext
  refine wpAny_bind (wpAny_attempt (wpAny_callSpecial?_slot (name := Str.ofString "__next__") hT F.slot_zip_next (wpAny_call_entry F.slot_zip_next hT F.entry_zip_next (zipS_end hh D hz hTI hTO h1 h2 hl1 hl2 hend fun h' e hk he => ?_) (F.args_zip_next_1 _))))
  obtain ⟨o, ho, hc⟩ := he
  exact wpAny_bind (wpAny_isInstance (T := "StopIteration") (b := true) ⟨o, ho, hc⟩ isSubtype_stop (wpAny_pure (hQ _ hk)))
end
abbrev itName (t : Bool) : String := if t = true then "tuple_iterator" else "list_iterator"
abbrev zq1 (t1 : Bool) (h : Heap) (l1 : Addr) : Heap := h.push { cls := .type (itName t1), data := .fields #[.ref l1, .int 0 0] }
abbrev zq2 (t1 t2 : Bool) (h : Heap) (l1 l2 : Addr) : Heap := (zq1 t1 h l1).push { cls := .type (itName t2), data := .fields #[.ref l2, .int 0 0] }
abbrev zq3 (t1 t2 : Bool) (h : Heap) (l1 l2 : Addr) : Heap := (zq2 t1 t2 h l1 l2).push { cls := .type "tuple", data := .seq #[.ref h.objs.size, .ref (zq1 t1 h l1).objs.size] }
abbrev zq4 (t1 t2 : Bool) (h : Heap) (l1 l2 : Addr) : Heap := (zq3 t1 t2 h l1 l2).push { cls := .type "tuple", data := .seq #[.none, .none] }
abbrev zq5 (t1 t2 : Bool) (h : Heap) (l1 l2 : Addr) : Heap := (zq4 t1 t2 h l1 l2).push { cls := .type "zip", data := .fields #[.none, .bool false, .bool false, .ref (zq2 t1 t2 h l1 l2).objs.size, .ref (zq3 t1 t2 h l1 l2).objs.size] }
theorem pyIter_s {prog : Program} {w : World} {A : Around} {E : Value → Shared → Prop} {s : Shared} {t : Bool} {l : Addr} {xs : Array Value} {Q : Value → Shared → Prop} (hl : SSeq t s.heap l xs)
    (hQ : Q (.ref s.heap.objs.size) { s with heap := zq1 t s.heap l }) : wpAny (model prog w) A (pyIter (.ref l)) Q E s := by
  cases t
  · exact wpAny_pyIter_list hl hQ
  · exact wpAny_pyIter_tuple hl hQ
theorem zipS_new (t1 t2 : Bool) (l1 l2 : Addr) (xs ys : Array Value) :
    Meets (Builtin.«zip.__new__» ⟨[.type "zip", .ref l1, .ref l2], []⟩) (fun _ R s => SSeq t1 s.heap l1 xs ∧ SSeq t2 s.heap l2 ys ∧ R (.ok (.ret (.ref (zq4 t1 t2 s.heap l1 l2).objs.size))) { s with heap := zq5 t1 t2 s.heap l1 l2 }) :=
  .of_wp fun prog w A R s h => by
    obtain ⟨hp, g, d, tk, os⟩ := s
    obtain ⟨hl1, hl2, h⟩ := h
    have hsub := sub_zip
    have hL1 : SSeq t1 (Shared.heap ⟨hp, g, d, tk, os⟩) l1 xs := hl1
    have hL2 : SSeq t2 (Shared.heap ⟨zq1 t1 hp l1, g, d, tk, os⟩) l2 ys := hl2.to fun o e => Heap.get?_push_of_some _ e
    wp_walk using pyIter_s hL1, pyIter_s hL2
    exact ⟨_, rfl, h⟩
theorem call_zipS {prog : Program} {w : World} {A : Around} {E : Value → Shared → Prop} {s : Shared} {t1 t2 : Bool} {l1 l2 : Addr} {xs ys : Array Value} {Q : Value → Shared → Prop} (hl1 : SSeq t1 s.heap l1 xs) (hl2 : SSeq t2 s.heap l2 ys)
    (h : ∀ h', IsZip h' (s.heap.objs.size + 4) (s.heap.objs.size + 2) (s.heap.objs.size + 3) .none → IsPair h' (s.heap.objs.size + 2) (.ref s.heap.objs.size) (.ref (s.heap.objs.size + 1)) →
      IsPair h' (s.heap.objs.size + 3) .none .none → SIter t1 h' s.heap.objs.size l1 0 → SIter t2 h' (s.heap.objs.size + 1) l2 0 → (∀ c o, s.heap.get? c = some o → h'.get? c = some o) → Q (.ref (s.heap.objs.size + 4)) { s with heap := h' }) :
    wpAny (model prog w) A (call (.type "zip") [.ref l1, .ref l2]) Q E s := by
  refine callType_new F.called_zip (by decide) (F.typeCall_zip_2 _ _) (F.newCall_zip_2 _ _) (fun obj => F.args_object_init_3 obj _ _) F.entry_zip_new (zipS_new t1 t2 l1 l2 xs ys) ⟨hl1, hl2, ?_⟩
  have z1 : (zq1 t1 s.heap l1).objs.size = s.heap.objs.size + 1 := Heap.size_push ..
  have z2 : (zq2 t1 t2 s.heap l1 l2).objs.size = s.heap.objs.size + 2 := by rw [Heap.size_push, z1]
  have z3 : (zq3 t1 t2 s.heap l1 l2).objs.size = s.heap.objs.size + 3 := by rw [Heap.size_push, z2]
  have z4 : (zq4 t1 t2 s.heap l1 l2).objs.size = s.heap.objs.size + 4 := by rw [Heap.size_push, z3]
  have g5 : (zq5 t1 t2 s.heap l1 l2).get? (zq4 t1 t2 s.heap l1 l2).objs.size = some _ := Heap.get?_push_size _ rfl
  have g4 : (zq5 t1 t2 s.heap l1 l2).get? (zq3 t1 t2 s.heap l1 l2).objs.size = some _ := Heap.get?_push_of_some _ (Heap.get?_push_size _ rfl)
  have g3 : (zq5 t1 t2 s.heap l1 l2).get? (zq2 t1 t2 s.heap l1 l2).objs.size = some _ := Heap.get?_push_of_some _ (Heap.get?_push_of_some _ (Heap.get?_push_size _ rfl))
  have g2 : (zq5 t1 t2 s.heap l1 l2).get? (zq1 t1 s.heap l1).objs.size = some _ := Heap.get?_push_of_some _ (Heap.get?_push_of_some _ (Heap.get?_push_of_some _ (Heap.get?_push_size _ rfl)))
  have g1 : (zq5 t1 t2 s.heap l1 l2).get? s.heap.objs.size = some _ := Heap.get?_push_of_some _ (Heap.get?_push_of_some _ (Heap.get?_push_of_some _ (Heap.get?_push_of_some _ (Heap.get?_push_size _ rfl))))
  show _ ∧ _
  rw [z2, z3, z4] at g5; rw [z1, z2] at g3; rw [z3] at g4; rw [z1] at g2; rw [z4]
  refine ⟨⟨_, g5, rfl⟩, h _ g5 g3 g4 ?_ ?_ fun c o x => Heap.get?_push_of_some _ (Heap.get?_push_of_some _ (Heap.get?_push_of_some _ (Heap.get?_push_of_some _ (Heap.get?_push_of_some _ x))))⟩
  · cases t1 <;> exact ⟨_, g1, rfl, rfl⟩
  · cases t2 <;> exact ⟨_, g2, rfl, rfl⟩
section
variable {prog : Program} {w : World} {A : Around} {R : Result → Shared → Prop} {I : Addr} {fp wr : List Addr} {n : Nat} {P : Nat → Value → Prop} {St : Nat → Heap → Prop}
theorem maxK_loop (kw : List (Str × Value)) (W : Walks prog w A.in1 I fp wr n P St) (bt : Nat → Nat → Bool) (hcmp : CmpOf prog w A.in1 .Gt P bt) (S : Addr) (hSf : S ∉ fp) :
    ∀ (k j : Nat) (s : Shared) (vb : Value) (c : Nat), n - (j + 1) = k → j + 1 ≤ n → St (j + 1) s.heap → P (argBest bt j) vb → s.heap.get? S = some { cls := .type "list", dict := none, data := .seq #[vb, vb] c, slots := #[] } →
    (∀ v h' tk, P (argBest bt (n - 1)) v → (∀ b o, b ∉ wr → b ≠ S → s.heap.get? b = some o → h'.get? b = some o) → R (.ok (.ret v)) { s with heap := h', toks := tk }) →
    codeAny (model prog w) A (.builtin "max.loop" ⟨[.ref I, .none, .ref S], kw⟩) R s := by
  have hSw : S ∉ wr := fun h => hSf (W.sub _ h)
  have hname : (toString "max" ++ toString ".loop" : String) = "max.loop" := by decide
  intro k
  induction k with
  | zero =>
    intro j s vb c hk hj hst hPb hS hR
    have hin : j + 1 = n := by omega
    refine codeAny_builtin F.entry_max_loop ?_; rw [Around.under_plainId F.plain_max_loop _]
    show wpAny _ A.in1 (seqItems? (.ref S) >>= _) _ _ s; refine wpAny_bind (wpAny_seqItems hS rfl ?_)
    show wpAny _ A.in1 (tryCatch (pyNext (.ref I)) _ >>= _) _ _ s; refine wpAny_bind (wpAny_tryCatch (W.done s _ _ (hin ▸ hst) fun h' tk hk' => ?_))
    have hS' := hk' S _ hSw hS
    show wpAny _ A.in1 (updateSeq S (fun _ => #[]) >>= _) _ _ _; refine wpAny_bind ?_; refine wpAny_updateSeq hS' rfl (wpAny_bind (wpAny_letGo (wpAny_pure ?_)))
    exact hR vb _ tk (by rw [← hin]; exact hPb) fun b o hbw hbS e => (Heap.get?_update_other _ _ (Ne.symm hbS)).trans (hk' b o hbw e)
  | succ k ih =>
    intro j s vb c hk hj hst hPb hS hR
    have hlt : j + 1 < n := by omega
    refine codeAny_builtin F.entry_max_loop ?_; rw [Around.under_plainId F.plain_max_loop _]
    show wpAny _ A.in1 (seqItems? (.ref S) >>= _) _ _ s; refine wpAny_bind (wpAny_seqItems hS rfl ?_)
    show wpAny _ A.in1 (tryCatch (pyNext (.ref I)) _ >>= _) _ _ s; refine wpAny_bind (wpAny_tryCatch (W.item (j + 1) s _ _ hlt hst fun v h' tk hP hst' hk' => ?_))
    have hS' := hk' S _ hSw hS
    show wpAny _ A.in1 (tryCatch (holding [v, v] (richCompare .Gt v vb >>= _)) _ >>= _) _ _ _; refine wpAny_bind (wpAny_tryCatch (wpAny_holding (wpAny_bind (hcmp (j + 1) (argBest bt j) v vb _ _ _ hP hPb ?_))))
    refine wpAny_bind (wpAny_holding (wpAny_truthy_bool ?_)); refine wpAny_bind (wpAny_letGo (wpAny_pure ?_))
    cases hb : bt (j + 1) (argBest bt j) with
    | true =>
      simp only [if_true]; refine wpAny_bind ?_; refine wpAny_updateSeq hS' rfl (wpAny_bind (wpAny_letGo ?_)); rw [hname]
      refine wpAny_pure ⟨plainId_quiet F.plain_max_loop _, ih (j + 1) _ v _ (by omega) hlt (W.frame _ _ _ hst' fun b hbf o e => ?_) (by simp only [argBest, hb, if_true]; exact hP) (Heap.get?_update_self _ hS' rfl) fun v' h'' tk'' hP' hk'' => ?_⟩
      · exact (Heap.get?_update_other _ _ (fun h : S = b => hSf (by rw [h]; exact hbf))).trans e
      · exact hR v' h'' tk'' hP' fun b o hbw hbS e => hk'' b o hbw hbS ((Heap.get?_update_other _ _ (Ne.symm hbS)).trans (hk' b o hbw e))
    | false =>
      simp only [Bool.false_eq_true, if_false]; refine wpAny_bind (wpAny_letGo ?_); rw [hname]
      refine wpAny_pure ⟨plainId_quiet F.plain_max_loop _, ih (j + 1) _ vb c (by omega) hlt hst' (by simp only [argBest, hb, Bool.false_eq_true, if_false]; exact hPb) hS' fun v' h'' tk'' hP' hk'' => ?_⟩
      exact hR v' h'' tk'' hP' fun b o hbw hbS e => hk'' b o hbw hbS (hk' b o hbw e)
theorem maxK_first (kw : List (Str × Value)) (W : Walks prog w A.in1 I fp wr n P St) (bt : Nat → Nat → Bool) (hcmp : CmpOf prog w A.in1 .Gt P bt) (S : Addr) (hSf : S ∉ fp) (hn : 0 < n) {s : Shared} {c : Nat} (hst : St 0 s.heap)
    (hS : s.heap.get? S = some { cls := .type "list", dict := none, data := .seq #[] c, slots := #[] })
    (hR : ∀ v h' tk, P (argBest bt (n - 1)) v → (∀ b o, b ∉ wr → b ≠ S → s.heap.get? b = some o → h'.get? b = some o) → R (.ok (.ret v)) { s with heap := h', toks := tk }) :
    codeAny (model prog w) A (.builtin "max.loop" ⟨[.ref I, .none, .ref S], kw⟩) R s := by
  have hSw : S ∉ wr := fun h => hSf (W.sub _ h)
  have hname : (toString "max" ++ toString ".loop" : String) = "max.loop" := by decide
  refine codeAny_builtin F.entry_max_loop ?_; rw [Around.under_plainId F.plain_max_loop _]
  show wpAny _ A.in1 (seqItems? (.ref S) >>= _) _ _ s; refine wpAny_bind (wpAny_seqItems hS rfl ?_)
  show wpAny _ A.in1 (tryCatch (pyNext (.ref I)) _ >>= _) _ _ s; refine wpAny_bind (wpAny_tryCatch (W.item 0 s _ _ hn hst fun v h' tk hP hst' hk' => ?_))
  have hS' := hk' S _ hSw hS
  show wpAny _ A.in1 (updateSeq S (fun _ => #[v, v]) >>= _) _ _ _; refine wpAny_bind ?_; refine wpAny_updateSeq hS' rfl ?_; rw [hname]
  refine wpAny_pure ⟨plainId_quiet F.plain_max_loop _, maxK_loop kw W bt hcmp S hSf _ 0 _ v _ rfl hn (W.frame _ _ _ hst' fun b hbf o e => ?_) hP (Heap.get?_update_self _ hS' rfl) fun v' h'' tk'' hP' hk'' => ?_⟩
  · exact (Heap.get?_update_other _ _ (fun h : S = b => hSf (by rw [h]; exact hbf))).trans e
  · exact hR v' h'' tk'' hP' fun b o hbw hbS e => hk'' b o hbw hbS ((Heap.get?_update_other _ _ (Ne.symm hbS)).trans (hk' b o hbw e))
theorem maxK_none {d : Value} {nm : Str} (W : Walks prog w A.in1 I fp wr 0 P St) (S : Addr) (hSf : S ∉ fp) {s : Shared} {c : Nat} (hst : St 0 s.heap)
    (hS : s.heap.get? S = some { cls := .type "list", dict := none, data := .seq #[] c, slots := #[] })
    (hR : ∀ h' tk, (∀ b o, b ∉ wr → s.heap.get? b = some o → h'.get? b = some o) → R (.ok (.ret d)) { s with heap := h', toks := tk }) :
    codeAny (model prog w) A (.builtin "max.loop" ⟨[.ref I, .none, .ref S], [(nm, d)]⟩) R s := by
  have hSw : S ∉ wr := fun h => hSf (W.sub _ h)
  refine codeAny_builtin F.entry_max_loop ?_; rw [Around.under_plainId F.plain_max_loop _]
  show wpAny _ A.in1 (seqItems? (.ref S) >>= _) _ _ s; refine wpAny_bind (wpAny_seqItems hS rfl ?_)
  show wpAny _ A.in1 (tryCatch (pyNext (.ref I)) _ >>= _) _ _ s; refine wpAny_bind (wpAny_tryCatch (W.done s _ _ hst fun h' tk hk' => ?_))
  refine wpAny_bind (wpAny_rule (wpAny_pure ?_))
  exact hR h' tk hk'
end
theorem args_maxD (a d : Value) : argsOk "max" ⟨[a], [(Str.ofString "default", d)]⟩ := by unfold argsOk; kernel_rfl

def Sq (t : Bool) (K : PySem.W.Frag) (H : Hp) (a : Addr) (xs : List V) : Prop := if t = true then SqT K H a xs else SqL K H a xs
theorem Inv.sseq {X : Cx} {pins : List (Addr × Obj)} {σ : St} {H : Hp} {s : Shared} {t : Bool} {a : Addr} {xs : List V} (I : Inv X pins σ H s) (h : Sq t X.K H a xs) : ∃ its : List Value, Vals xs its ∧ SSeq t s.heap a its.toArray ∧ xs.length ≤ sizeLine := by
  cases t
  · obtain ⟨its, r, p, z⟩ := I.list h
    exact ⟨its, r, p.isList, z⟩
  · obtain ⟨its, r, p, z⟩ := I.tuple h
    exact ⟨its, r, p, z⟩
theorem Inv.sseq_inj {X : Cx} {pins : List (Addr × Obj)} {σ : St} {H : Hp} {s : Shared} {t : Bool} {a : Addr} {xs ys : List V} (I : Inv X pins σ H s) (h : Sq t X.K H a xs) (h' : Sq t X.K H a ys) : xs = ys := by
  cases t
  · exact I.list_inj h h'
  · exact I.tuple_inj h h'
def Itz (t1 t2 : Bool) (K : PySem.W.Frag) (a b : Addr) : It :=
  ⟨fun i H => ∃ xs ys x y, Sq t1 K H a xs ∧ Sq t2 K H b ys ∧ xs[i]? = some x ∧ ys[i]? = some y,
   fun i H v H' => ∃ p x y, v = .ref p ∧ H p = none ∧ H' = upd H p (.tup [x, y]) ∧ ∀ xs ys, Sq t1 K H a xs → Sq t2 K H b ys → xs[i]? = some x ∧ ys[i]? = some y,
   fun i H => ∃ xs ys, Sq t1 K H a xs ∧ Sq t2 K H b ys ∧ (xs.length ≤ i ∨ ys.length ≤ i)⟩
section
variable {X : Cx} {pins : List (Addr × Obj)} {σ : St} {H : Hp} {s : Shared}
theorem Inv.turnedL {ch : List Addr} {h' : Heap} {t' : Nat} (I : Inv X pins σ H s) (hf : ∀ b ∈ ch, FpOk X pins H b) (k : ∀ b o, b ∉ ch → s.heap.get? b = some o → h'.get? b = some o) : Inv X pins σ H { s with heap := h', toks := t' } := by
  have nch : ∀ b u, H b = some u → b ∉ ch := fun b u e z => by rw [(hf b z).1] at e; cases e
  refine I.step (g' := s.gens) (d' := s.drawn) (ch := ch) (fun b hb => ⟨(hf b hb).2.2.2.1, (hf b hb).2.1, (hf b hb).2.2.2.2.1, (hf b hb).2.2.2.2.2⟩) (fun b o _ _ hc e _ => k b o hc e) (fun b o _ _ hc e _ => ⟨o.slots, k b o hc e⟩) (fun _ _ _ _ n => n)
    (fun b o hc e => ⟨o, k b o hc e⟩) (fun _ _ e => e) (fun _ _ _ e => e) (fun b ps e => ⟨#[], by rw [e]; simp⟩) (fun m hm => ?_) (fun b u e => ?_) I.bare
  · obtain ⟨o, es, ep, ho, r⟩ := hm
    exact ⟨o, es, ep, k _ o (fun z => (hf _ z).2.1 rfl) ho, r⟩
  · refine (I.hok b u e).stay (fun c v hc q => k c v ?_ q) (fun _ q => q) fun _ _ q => q
    rcases hc with z | z
    · rw [z]; exact nch b u e
    · exact nch c _ z
theorem Inv.turnedT {ch : List Addr} {h' : Heap} {t' : Nat} {T : Addr} {xs : List V} {its : List Value} (I : Inv X pins σ H s) (hf : ∀ b ∈ ch, FpOk X pins H b) (k : ∀ b o, b ∉ ch → s.heap.get? b = some o → h'.get? b = some o)
    (hT : s.heap.objs.size ≤ T) (r : Vals xs its) (hz : xs.length ≤ sizeLine) (e : IsTup h' T its.toArray) : Inv X pins σ (upd H T (.tup xs)) { s with heap := h', toks := t' } := by
  have nT : H T = none := I.hok.fresh hT
  have nch : ∀ b u, H b = some u → b ∉ ch := fun b u e z => by rw [(hf b z).1] at e; cases e
  have neT : ∀ b o, s.heap.get? b = some o → b ≠ T := fun b o e z => absurd (Nat.lt_of_lt_of_le (Heap.lt_size e) (by rw [z]; exact hT)) (Nat.lt_irrefl _)
  refine I.step (g' := s.gens) (d' := s.drawn) (ch := ch) (fun b hb => ⟨(hf b hb).2.2.2.1, (hf b hb).2.1, (hf b hb).2.2.2.2.1, (hf b hb).2.2.2.2.2⟩) (fun b o _ _ hc e _ => k b o hc e) (fun b o _ _ hc e _ => ⟨o.slots, k b o hc e⟩)
    (fun b o _ e n => by rw [upd_ne (neT b o e)]; exact n) (fun b o hc e => ⟨o, k b o hc e⟩) (fun b ys q => by rw [upd_ne (ne_of_none q nT)]; exact q) (fun b o u q => by rw [upd_ne (ne_of_none q nT)]; exact q)
    (fun b ps q => ⟨#[], by rw [upd_ne (ne_of_none q nT), q]; simp⟩) (fun m hm => ?_) (fun b u q => ?_) I.bare
  · obtain ⟨o, es, ep, ho, rr⟩ := hm
    exact ⟨o, es, ep, k _ o (fun z => (hf _ z).2.1 rfl) ho, rr⟩
  · by_cases hb : b = T
    · subst hb
      rw [upd_same] at q
      cases q
      exact ⟨hz, its, r, e⟩
    · rw [upd_ne hb] at q
      refine (I.hok b u q).stay (fun c v hc z => k c v ?_ z) (fun c z => by rw [upd_ne (ne_of_none z nT)]; exact z) fun c ys z => by rw [upd_ne (ne_of_none z nT)]; exact z
      rcases hc with z | z
      · rw [z]; exact nch b u q
      · exact nch c _ z
end
theorem turn_zip {P : Program} {w : World} {K : PySem.W.Frag} {es : List Expr} {kk : Nat} {tpos : Pos} {t1 t2 : Bool} {a b z TI TO i1 i2 : Addr} (D : ZipApart z TI TO i1 i2 a b) :
    Turn P w K (.Tuple es kk tpos) (Itz t1 t2 K a b) [z, TI, TO, i1, i2] z (fun i h => IsZip h z TI TO .none ∧ IsPair h TI (.ref i1) (.ref i2) ∧ (∃ u v, IsPair h TO u v) ∧ SIter t1 h i1 a i ∧ SIter t2 h i2 b i) where
  mem := by simp
  obj := fun i h st c hb => by
    obtain ⟨hz, hTI, ⟨u, v, hTO⟩, h1, h2⟩ := st
    simp only [List.mem_cons, List.not_mem_nil, or_false] at hb
    rcases hb with rfl | rfl | rfl | rfl | rfl
    · exact ⟨_, hz, fun v e => nomatch e⟩
    · exact ⟨_, hTI, fun v e => nomatch e⟩
    · exact ⟨_, hTO, fun v e => nomatch e⟩
    · exact h1.obj
    · exact h2.obj
  keep := fun i h h' st k => by
    obtain ⟨hz, hTI, ⟨u, v, hTO⟩, h1, h2⟩ := st
    exact ⟨k z (by simp) _ hz, k TI (by simp) _ hTI, ⟨u, v, k TO (by simp) _ hTO⟩, h1.to fun o e => k i1 (by simp) o e, h2.to fun o e => k i2 (by simp) o e⟩
  item := by
    intro X hP hw hK hc i pins s σ H E I hf st hg
    subst hP hw hK
    obtain ⟨xs, ys, x, y, q1, q2, e1, e2⟩ := hg
    obtain ⟨its1, r1, p1, z1⟩ := I.sseq q1
    obtain ⟨its2, r2, p2, z2⟩ := I.sseq q2
    obtain ⟨u1, eu1, ru1⟩ := r1.get e1
    obtain ⟨u2, eu2, ru2⟩ := r2.get e2
    obtain ⟨hz, hTI, ⟨u, v, hTO⟩, h1, h2⟩ := st
    have hf4 : ∀ c ∈ [z, TO, i1, i2], FpOk X pins H c := fun c hc => hf c (by simp only [List.mem_cons, List.not_mem_nil, or_false] at hc ⊢; rcases hc with rfl | rfl | rfl | rfl <;> simp)
    have lt : ∀ {c o}, s.heap.get? c = some o → s.heap.objs.size ≠ c := fun e => Nat.ne_of_gt (Heap.lt_size e)
    refine pyNext_zipS D hz hTI hTO h1 h2 p1 p2 (x := u1) (y := u2) (by simpa using eu1) (by simpa using eu2) fun h' a1 a2 a3 a4 a5 a6 hk => ?_
    refine ⟨_, rfl, wpAny_letOwnedTupleGo_zip a1 fun h'' b1 b2 => ?_⟩
    have b2' : Heap.SameBut z h' h'' := b2
    have kk : ∀ c o, c ∉ [z, TO, i1, i2] → s.heap.get? c = some o → h''.get? c = some o := fun c o hc e => by
      simp only [List.mem_cons, List.not_mem_nil, or_false, not_or] at hc
      exact b2'.extBut _ _ hc.1 (hk c o hc.1 hc.2.1 hc.2.2.1 hc.2.2.2 e)
    have tT : h''.get? s.heap.objs.size = some { cls := .type "tuple", data := .seq #[u1, u2] } := b2'.extBut _ _ (lt hz) a5
    have nT : H s.heap.objs.size = none := I.hok.fresh (Nat.le_refl _)
    have I' : Inv X pins σ (upd H s.heap.objs.size (.tup [x, y])) { s with heap := h'' } := I.turnedT (t' := s.toks) (its := [u1, u2]) hf4 kk (Nat.le_refl _) (.cons ru1 (.cons ru2 .nil)) (by show 2 ≤ sizeLine; decide) ⟨_, tT, rfl, _, rfl⟩
    refine ⟨.ref s.heap.objs.size, upd H s.heap.objs.size (.tup [x, y]), I', rfl,
      ⟨_, x, y, rfl, nT, rfl, fun xs' ys' w1 w2 => ⟨by rw [I.sseq_inj w1 q1]; exact e1, by rw [I.sseq_inj w2 q2]; exact e2⟩⟩, ⟨b1, b2'.extBut _ _ D.TIz (hk _ _ D.TIz D.TITO D.TIi1 D.TIi2 hTI), ⟨_, _, b2'.extBut _ _ D.TOz a2⟩, a3.to fun o e => b2'.extBut _ _ D.i1z e, a4.to fun o e => b2'.extBut _ _ D.i2z e⟩, fun c hc => ?_⟩
    obtain ⟨o, eo, _⟩ : ∃ o, s.heap.get? c = some o ∧ True := by
      simp only [List.mem_cons, List.not_mem_nil, or_false] at hc
      rcases hc with rfl | rfl | rfl | rfl | rfl
      · exact ⟨_, hz, trivial⟩
      · exact ⟨_, hTI, trivial⟩
      · exact ⟨_, hTO, trivial⟩
      · obtain ⟨o, e, _⟩ := h1.obj; exact ⟨o, e, trivial⟩
      · obtain ⟨o, e, _⟩ := h2.obj; exact ⟨o, e, trivial⟩
    rw [upd_ne (Ne.symm (lt eo))]
    exact (hf c hc).1
  done := by
    intro X hP hw hK hc i pins s σ H E I hf st hg
    subst hP hw hK
    obtain ⟨xs, ys, q1, q2, e⟩ := hg
    obtain ⟨its1, r1, p1, z1⟩ := I.sseq q1
    obtain ⟨its2, r2, p2, z2⟩ := I.sseq q2
    obtain ⟨hz, hTI, ⟨u, v, hTO⟩, h1, h2⟩ := st
    have hf4 : ∀ c ∈ [z, TO, i1, i2], FpOk X pins H c := fun c hc => hf c (by simp only [List.mem_cons, List.not_mem_nil, or_false] at hc ⊢; rcases hc with rfl | rfl | rfl | rfl <;> simp)
    have l1 := r1.length
    have l2 := r2.length
    refine pyNext_zipSE (I.ok.hd hc) D hz hTI hTO h1 h2 p1 p2 ?_ fun h' hk => ⟨rfl, I.turnedL (t' := s.toks) hf4 fun c o hc e => ?_⟩
    · rcases e with e | e
      · exact .inl (by simp; omega)
      · exact .inr (by simp; omega)
    · simp only [List.mem_cons, List.not_mem_nil, or_false, not_or] at hc
      exact hk c o hc.1 hc.2.1 hc.2.2.1 hc.2.2.2 e
  self := fun _ _ _ _ _ st h => wpAny_pyIter_zip st.1 h
theorem bt_zip : bootBuiltins "zip" = some (.type "zip") := by decide +kernel
def iZip (t1 t2 : Bool) (K : PySem.W.Frag) (ta : TA) : TI := fun σ H R => ta σ H fun vs H1 => ∃ a b, vs = [.ref a, .ref b] ∧ (∃ xs, Sq t1 K H1 a xs) ∧ (∃ ys, Sq t2 K H1 b ys) ∧ R (Itz t1 t2 K a b) H1
theorem pi_zip {X : Cx} {ea eb : Expr} {ta : TA} {p pos : Pos} {es : List Expr} {kk : Nat} {tpos : Pos} {t1 t2 : Bool} (hg : Gl X "zip") (hm : X.mg "zip" = none) (ha : PA X [ea, eb] ta) (hs : starEach [ea, eb] X.env = [(false, eval ea X.env), (false, eval eb X.env)] := by rfl) (hs2 : starEach [eb] X.env = [(false, eval eb X.env)] := by rfl) :
    PI X (.Tuple es kk tpos) (.Call (.Name "zip" p) [ea, eb] [] pos) (iZip t1 t2 X.K ta) := by
  intro pins s σ H R I h
  refine Call_ (ld_blt I hg hm bt_zip (PyProof.Rows.callWith_type1 (thn (ha pos pins s σ H _ I h) fun us s1 ⟨vs, H1, I1, r1, q1⟩ => ?_) (by rw [hs, hs2]) (by rw [hs2]; rfl)))
  obtain ⟨a, b, e, ⟨xs, w1⟩, ⟨ys, w2⟩, q⟩ := q1
  subst e
  obtain ⟨u, v, rfl, ru, rv⟩ := r1.two
  cases ru
  cases rv
  obtain ⟨its1, r1, p1, z1⟩ := I1.sseq w1
  obtain ⟨its2, r2, p2, z2⟩ := I1.sseq w2
  have lt1 : a < s1.heap.objs.size := by cases t1 <;> (obtain ⟨_, e, _⟩ := p1; exact Heap.lt_size e)
  have lt2 : b < s1.heap.objs.size := by cases t2 <;> (obtain ⟨_, e, _⟩ := p2; exact Heap.lt_size e)
  refine call_zipS p1 p2 fun h' hz hTI hTO hi1 hi2 hk => wpAny_pyIter_zip hz ?_
  refine ⟨_, _, _, _, H1, rfl, I1.kept (t' := s1.toks) hk, turn_zip (t1 := t1) (t2 := t2) (zipApart_new lt1 lt2), ⟨hz, hTI, ⟨_, _, hTO⟩, hi1, hi2⟩, fun c hc => ?_, q⟩
  have hle : s1.heap.objs.size ≤ c := by
    simp only [List.mem_cons, List.not_mem_nil, or_false] at hc
    rcases hc with rfl | rfl | rfl | rfl | rfl <;> omega
  exact I1.fpOk hle (I1.hok.fresh hle)
section
variable {X : Cx}
theorem call_maxL (hc : X.calm = true) : CallR X (.builtin "max") (fun xs H Q => ∃ p ns, xs = [.ref p] ∧ SqL X.K H p (ns.map V.int) ∧ ns ≠ [] ∧ ∀ M, M ∈ ns → (∀ a ∈ ns, a ≤ M) → Q (.int M) H) := by
  intro pins s σ H xs us Q I r h
  obtain ⟨p, ns, rfl, hq, hne, q⟩ := h
  obtain ⟨u, rfl, rx⟩ := vals1 r
  cases rx
  obtain ⟨its, r', pl, hz⟩ := I.list hq
  have hi := intsAre_of r'
  obtain ⟨zs, e⟩ := hi.allInts.items
  have hns : ns = zs.toList.map (·.1) := by rw [← hi.numsOf, ← nums_intItems, ← e]
  have hsz : 0 < zs.size := by
    have h3 := List.length_pos_iff.mpr hne
    rw [hns, List.length_map, Array.length_toList] at h3
    exact h3
  have pl' := pl.isList
  rw [e] at pl'
  refine max_intList (I.ok.hd hc) pl' hsz fun v h' tk hv hk => ?_
  obtain ⟨t, rfl⟩ := intItems_at hv
  obtain ⟨h1, h2⟩ := argBest_gt (numAt zs) (zs.size - 1)
  refine ⟨.int _, H, I.kept hk, ⟨t, rfl⟩, q _ ?_ fun a ha => ?_⟩
  · rw [hns, numAt_eq]
    exact getD_mem (by rw [List.length_map, Array.length_toList]; omega)
  · rw [hns] at ha
    obtain ⟨j, hj, rfl⟩ := mem_getD ha
    rw [List.length_map, Array.length_toList] at hj
    rw [← numAt_eq]
    exact h2 j (by omega)
def CallKR (X : Cx) (f : Value) (ks : List Str) (r : List V → List V → Hp → VK → Prop) : Prop :=
  ∀ (pins : List (Addr × Obj)) (s : Shared) (σ : St) (H : Hp) (xs zs : List V) (us ws : List Value) (Q : VK), Inv X pins σ H s → Vals xs us → Vals zs ws → r xs zs H Q →
    wpAny (model X.prog X.w) X.A (call f us (ks.zip ws)) (EP X pins σ Q) X.xe s
def tCBK (r : List V → List V → Hp → VK → Prop) (t tk : TA) : TE := fun σ H Q => t σ H fun vs H1 => tk σ H1 fun zs H2 => r vs zs H2 Q
theorem pe_callBK {x : Str} {p pos : Pos} {e : Expr} {es : List Expr} {kws : List Keyword} {t tk : TA} {id : String} {ks : List Str} {r : List V → List V → Hp → VK → Prop} (hc : CallKR X (.builtin id) ks r) (hg : Gl X x) (hm : X.mg x = none) (hv : bootBuiltins x = some (.builtin id))
    (ha : PA X (e :: es) t) (hkw : PK X kws tk) (hks : (backToKw pos (keywordEach kws X.env)).filterMap (·.1) = ks := by rfl) (hn : x ≠ "__name__" := by decide) (hdb : (x == ("__debug__" : Str)) = false := by decide)
    (he : backTo pos (starEach (e :: es) X.env) = (false, eval e X.env) :: backTo pos (starEach es X.env) := by rfl) (hpl : (backTo pos (starEach (e :: es) X.env)).any (·.1) = false := by rfl)
    (hall : (backToKw pos (keywordEach kws X.env)).all (·.1.isSome) = true := by rfl) (hkn : (backToKw pos (keywordEach kws X.env)).any (·.1.isNone) = false := by rfl) : PE X (.Call (.Name x p) (e :: es) kws pos) (tCBK r t tk) := by
  intro pins s σ H Q I h
  refine wpAny_Call_Name_kw (ld_blt I hg hm hv ?_ hn hdb)
  refine PyProof.Rows.callWith_kw (thn (ha pos pins s σ H _ I h) fun us s1 ⟨vs, H1, I1, r1, q1⟩ => thn (hkw pos pins s1 σ H1 _ I1 q1) fun ws s2 ⟨zs, H2, I2, r2, q2⟩ => ?_) he hpl hall hkn
  rw [hks]
  exact hc pins s2 σ H2 vs zs us ws Q I2 r1 r2 q2
theorem call_maxD (hc : X.calm = true) : CallKR X (.builtin "max") ["default"] (fun xs zs H Q => ∃ p ns d, xs = [.ref p] ∧ zs = [.int d] ∧ SqL X.K H p (ns.map V.int) ∧ (ns = [] → Q (.int d) H) ∧ (∀ M, M ∈ ns → (∀ a ∈ ns, a ≤ M) → Q (.int M) H)) := by
  intro pins s σ H xs zs us ws Q I r rz h
  obtain ⟨p, ns, d, rfl, rfl, hq, q0, q⟩ := h
  obtain ⟨u, rfl, rx⟩ := vals1 r
  cases rx
  obtain ⟨v, rfl, td, rfl⟩ := vals1 rz
  obtain ⟨its, r', pl, hz⟩ := I.list hq
  have hi := intsAre_of r'
  obtain ⟨ys, e⟩ := hi.allInts.items
  have hns : ns = ys.toList.map (·.1) := by rw [← hi.numsOf, ← nums_intItems, ← e]
  have pl' := pl.isList
  rw [e] at pl'
  have hname : (toString "max" ++ toString ".loop" : String) = "max.loop" := by decide
  have hh : X.A.handled = none := I.ok.hd hc
  refine kmk_tree PySem.F.kind_max PySem.F.plain_max PySem.F.entry_max (args_maxD _ _) ?_
  show wpAny _ X.A.in1 (Builtin.Builtins.bindParams "max" ["key", "default"] 0 ⟨[], [(Str.ofString "default", .int d td)]⟩ >>= _) _ _ s
  refine wpAny_bind (wpAny_of_eq (show Builtin.Builtins.bindParams "max" ["key", "default"] 0 ⟨[], [(Str.ofString "default", .int d td)]⟩ = pure [none, some (.int d td)] from rfl) ?_)
  refine wpAny_bind (wpAny_pure ?_)
  refine wpAny_bind (iter_intList pl' fun s2 e2 st hfp hlI => ?_)
  subst e2
  refine wpAny_bind (wpAny_newObj_type ?_)
  have W := Walks.list (prog := X.prog) (w := X.w) (A := X.A.in1) hh s.heap.objs.size p hlI (intItems ys)
  rw [hname]
  have old : ∀ b o, s.heap.get? b = some o → b ≠ s.heap.objs.size := fun b o e => Nat.ne_of_lt (Heap.lt_size e)
  refine wpAny_pure ⟨plainId_quiet PySem.F.plain_max_loop _, ?_⟩
  have hSf : (s.heap.push { cls := .type "list_iterator", data := .fields #[.ref p, .int 0 0] }).objs.size ∉ [s.heap.objs.size, p] := fun hm => Nat.lt_irrefl _ (hfp _ hm)
  have st' := W.frame 0 _ ((s.heap.push { cls := .type "list_iterator", data := .fields #[.ref p, .int 0 0] }).push { cls := .type "list", dict := none, data := .seq ([] : List Value).toArray }) st fun b _ o e => Heap.get?_push_of_some _ e
  by_cases hn : 0 < ys.size
  · refine maxK_first _ W (fun i j => decide (numAt ys i > numAt ys j)) (CmpOf.ints_gt (numAt ys) (fun _ _ => intItems_at)) _ hSf (by simpa [intItems] using hn) st' (Heap.get?_push_size _ rfl) fun v h' tk hP hk => ?_
    have hv : (intItems ys)[argBest (fun i j => decide (numAt ys i > numAt ys j)) (ys.size - 1)]? = some v := by simpa [intItems] using hP
    obtain ⟨t, rfl⟩ := intItems_at hv
    obtain ⟨h1, h2⟩ := argBest_gt (numAt ys) (ys.size - 1)
    refine ⟨.int _, H, I.kept fun b o e => hk b o (by simpa using old b o e) ?_ (Heap.get?_push_of_some _ (Heap.get?_push_of_some _ e)), ⟨t, rfl⟩, q _ ?_ fun a ha => ?_⟩
    · have := Heap.lt_size e
      rw [Heap.size_push]
      exact Nat.ne_of_lt (Nat.lt_succ_of_lt this)
    · rw [hns, numAt_eq]
      exact getD_mem (by rw [List.length_map, Array.length_toList]; omega)
    · rw [hns] at ha
      obtain ⟨j, hj, rfl⟩ := mem_getD ha
      rw [List.length_map, Array.length_toList] at hj
      rw [← numAt_eq]
      exact h2 j (by omega)
  · have e0 : (intItems ys).size = 0 := by rw [intItems, Array.size_map]; omega
    rw [e0] at W
    refine maxK_none W _ hSf st' (Heap.get?_push_size _ rfl) fun h' tk hk => ?_
    refine ⟨.int d, H, I.kept fun b o e => hk b o (by simpa using old b o e) (Heap.get?_push_of_some _ (Heap.get?_push_of_some _ e)), ⟨td, rfl⟩, q0 ?_⟩
    rw [hns]
    have : ys.toList.length = 0 := by rw [Array.length_toList]; omega
    rw [List.eq_nil_of_length_eq_zero this]
    rfl
theorem op_eqNil (hu : X.A.units < cLine) : OpR X (compareOp .Eq) (fun x y H Q => ∃ p b xs, x = .ref p ∧ y = .ref b ∧ SqL X.K H p xs ∧ SqL X.K H b [] ∧ Q (.bl xs.isEmpty) H) := by
  intro pins s σ H x y v u Q I rx ry h
  obtain ⟨p, b, xs, rfl, rfl, h1, h2, q⟩ := h
  cases rx
  cases ry
  obtain ⟨its, r1, p1, _⟩ := I.list h1
  obtain ⟨its2, r2, p2, _⟩ := I.list h2
  cases r2
  cases r1 with
  | nil => exact PySem.SeqAt.eq_listAt (e := fun _ => true) p1.isList p2.isList rfl hu (fun j a1 => absurd a1 (by simp)) ⟨.bl true, H, I, rfl, q⟩
  | cons ra rb => exact PySem.SeqAt.eq_list_lengthsAt p1.isList p2.isList (by simp) hu ⟨.bl false, H, I, rfl, q⟩
theorem op_neNil (hu : X.A.units < cLine) : OpR X (compareOp .NotEq) (fun x y H Q => ∃ p b xs, x = .ref p ∧ y = .ref b ∧ SqL X.K H p xs ∧ SqL X.K H b [] ∧ Q (.bl (!xs.isEmpty)) H) := by
  intro pins s σ H x y v u Q I rx ry h
  obtain ⟨p, b, xs, rfl, rfl, h1, h2, q⟩ := h
  cases rx
  cases ry
  obtain ⟨its, r1, p1, _⟩ := I.list h1
  obtain ⟨its2, r2, p2, _⟩ := I.list h2
  cases r2
  cases r1 with
  | nil => exact PySem.SeqAt.RcNeAt.lists (e := fun _ => true) p1.isList p2.isList rfl hu (fun j a1 => absurd a1 (by simp)) _ _ _ _ ⟨.bl false, H, I, rfl, q⟩
  | cons ra rb => exact PySem.SeqAt.RcNeAt.lists_lengths p1.isList p2.isList (by simp) hu _ _ _ _ ⟨.bl true, H, I, rfl, q⟩
theorem sl_str : SlR X (fun x lo hi H Q => ∃ z, x = .str z ∧ z.length ≤ sizeLine ∧ Q (.str (Txt.slice z lo hi)) H) := by
  intro pins s σ H x v vl vu lo hi sl Q I rx hs pl pu h
  obtain ⟨z, rfl, hz, q⟩ := h
  obtain ⟨t, rfl⟩ := rx
  refine ⟨"str", _, PySem.F.slot_str_getitem.lookup, typeIs_str _ _ _, ?_⟩
  obtain ⟨o, h1, h2, h3⟩ := hs
  cases pl with
  | none =>
    cases pu with
    | none => exact wpAny_getItem_str_slice (l := none) (u := none) (st := none) ⟨o, h1, h2, h3⟩ rfl (post_val_or_str ⟨Nat.le_trans (Txt.slice_le z _ _) hz, fun t' k => ⟨.str _, H, I.tok _, ⟨_, rfl⟩, q⟩⟩)
    | int j uj => exact wpAny_getItem_str_slice (l := none) (u := some (j, uj)) (st := none) ⟨o, h1, h2, h3⟩ rfl (post_val_or_str ⟨Nat.le_trans (Txt.slice_le z _ _) hz, fun t' k => ⟨.str _, H, I.tok _, ⟨_, rfl⟩, q⟩⟩)
  | int i ui =>
    cases pu with
    | none => exact wpAny_getItem_str_slice (l := some (i, ui)) (u := none) (st := none) ⟨o, h1, h2, h3⟩ rfl (post_val_or_str ⟨Nat.le_trans (Txt.slice_le z _ _) hz, fun t' k => ⟨.str _, H, I.tok _, ⟨_, rfl⟩, q⟩⟩)
    | int j uj => exact wpAny_getItem_str_slice (l := some (i, ui)) (u := some (j, uj)) (st := none) ⟨o, h1, h2, h3⟩ rfl (post_val_or_str ⟨Nat.le_trans (Txt.slice_le z _ _) hz, fun t' k => ⟨.str _, H, I.tok _, ⟨_, rfl⟩, q⟩⟩)
end

section
variable {prog : Program} {w : World} {A : Around} {E : Value → Shared → Prop}
end
def gLst (K : PySem.W.Frag) (n : Nat) (t : TGs) : TG := fun v σ H Q => ∃ a xs, v = .ref a ∧ SqL K H a xs ∧ xs.length = n ∧ t xs σ H Q
theorem comp_zip {t1 t2 : Bool} {K : PySem.W.Frag} {a b : Addr} {xs ys : List V} {g : TG} {tc : TT} {te : TE} {σ' : St} {H1 : Hp} {Fin : List V → Hp → Prop} (Pv : Nat → List V → Hp → Prop) (he : xs.length = ys.length) (hz : xs.length ≤ 1000000) (h0 : Pv 0 [] H1)
    (hl : ∀ i acc H, i ≤ xs.length → Pv i acc H → Sq t1 K H a xs ∧ Sq t2 K H b ys ∧ acc.length ≤ i)
    (hs : ∀ i x y p acc H, xs[i]? = some x → ys[i]? = some y → Pv i acc H → H p = none → g (.ref p) σ' (upd H p (.tup [x, y])) fun σ2 H2 => tc σ2 H2 fun b H3 => if b = true then te σ2 H3 fun y H4 => Pv (i + 1) (acc ++ [y]) H4 else Pv (i + 1) acc H3) (hd : ∀ acc H, Pv xs.length acc H → Fin acc H) :
    ∃ W : Nat → Nat → List V → Hp → Prop, (∃ m, W 0 m [] H1) ∧ ∀ i m acc H, W i m acc H → ((Itz t1 t2 K a b).stop i H ∧ acc.length ≤ sizeLine ∧ Fin acc H) ∨
      ((Itz t1 t2 K a b).go i H ∧ acc.length < sizeLine ∧ ∃ N : List V → Hp → Prop, (∀ acc' H', N acc' H' → ∃ m', m' < m ∧ W (i + 1) m' acc' H') ∧ ∀ x H', (Itz t1 t2 K a b).yld i H x H' → g x σ' H' fun σ2 H2 => tc σ2 H2 fun b H3 => if b = true then te σ2 H3 fun y H4 => N (acc ++ [y]) H4 else N acc H3) := by
  have zl : (1000000 : Nat) < sizeLine := by rw [sizeLine_eq]; decide
  refine ⟨fun i m acc H => m = xs.length - i ∧ i ≤ xs.length ∧ Pv i acc H, ⟨xs.length, by simp, Nat.zero_le _, h0⟩, ?_⟩
  rintro i m acc H ⟨rfl, hi, p⟩
  obtain ⟨q1, q2, al⟩ := hl i acc H hi p
  by_cases hlt : i < xs.length
  · refine .inr ⟨⟨xs, ys, xs[i], ys[i]'(by omega), q1, q2, by simp [hlt], List.getElem?_eq_getElem (by omega)⟩, by omega, Pv (i + 1), fun acc' H' p' => ⟨xs.length - (i + 1), by omega, rfl, hlt, p'⟩, fun x H' y => ?_⟩
    obtain ⟨pp, x', y', rfl, hp, rfl, e⟩ := y
    obtain ⟨e1, e2⟩ := e xs ys q1 q2
    exact hs i x' y' pp acc H e1 e2 p hp
  · have e : i = xs.length := by omega
    subst e
    exact .inl ⟨⟨xs, ys, q1, q2, .inl (Nat.le_refl _)⟩, by omega, hd acc H p⟩

section
variable {X : Cx} (K : PySem.W.Frag) (h : X.K = K := by rfl)
include h
theorem ix_tupK : IxR X (rIxT K) := h ▸ ix_tup
theorem ix_listK : IxR X (rIxL K) := h ▸ ix_list
theorem pg_tupK {pos : Pos} {es : List Expr} {k : Nat} {t : TGs} {n : Nat} (hc : X.calm = true) (hh : PGs X es t) (hn : (assignEach es X.env).length = n := by rfl) (hst : (assignEach es X.env).findIdx? (·.1) = none := by rfl) : PG X (.Tuple es k pos) (gTup K n t) := h ▸ pg_tup hc hh hn hst
end

def tMid (t : TS) : TS := fun D σ H => ∃ P : St → Hp → Prop, t { D with nx := P } σ H ∧ ∀ σ' H', P σ' H' → D.nx σ' H'
theorem ps_mid {X : Cx} {st : Stmt} {t : TS} (h : PS X st t) : PS X st (tMid t) := by
  intro pins s σ H D I ⟨P, h1, h2⟩
  refine thn (h pins s σ H _ I h1) fun f s' q => ?_
  cases f with
  | next => obtain ⟨σ', H', I', q'⟩ := q; exact ⟨σ', H', I', h2 _ _ q'⟩
  | brk => exact q
  | cont => exact q
  | ret u => exact q
def rMaxL (K : PySem.W.Frag) : List V → Hp → VK → Prop := fun xs H Q => ∃ p ns, xs = [.ref p] ∧ SqL K H p (ns.map V.int) ∧ ns ≠ [] ∧ ∀ M, M ∈ ns → (∀ a ∈ ns, a ≤ M) → Q (.int M) H
section
variable {K : PySem.W.Frag}
theorem kit_int_list : PySem.W.kitOne K (.type "int") (.type "list") = some false := kit_of (by decide +kernel) (by decide +kernel) (by decide +kernel)
theorem kit_int_tuple : PySem.W.kitOne K (.type "int") (.type "tuple") = some false := kit_of (by decide +kernel) (by decide +kernel) (by decide +kernel)
theorem kit_str_list : PySem.W.kitOne K (.type "str") (.type "list") = some false := kit_of (by decide +kernel) (by decide +kernel) (by decide +kernel)
theorem kit_str_tuple : PySem.W.kitOne K (.type "str") (.type "tuple") = some false := kit_of (by decide +kernel) (by decide +kernel) (by decide +kernel)
theorem kit_bool_list : PySem.W.kitOne K (.type "bool") (.type "list") = some false := kit_of (by decide +kernel) (by decide +kernel) (by decide +kernel)
theorem kit_bool_tuple : PySem.W.kitOne K (.type "bool") (.type "tuple") = some false := kit_of (by decide +kernel) (by decide +kernel) (by decide +kernel)
theorem kit_tuple_list : PySem.W.kitOne K (.type "tuple") (.type "list") = some false := kit_of (by decide +kernel) (by decide +kernel) (by decide +kernel)
end
end L2

set_option linter.all false
namespace Lf
open PySem
inductive Kd where
  | num (w m : Int)
  | row (k : Kd) (n : Int)
  | rcd (fs : List (Str × Kd))
  | cho (ks : List Kd)
def up (n m : Int) : Int := (n + m - 1) / m * m
theorem up_eq {n m : Int} (hm : 0 < m) : up n m = n + m - 1 - (n + m - 1) % m := by
  have := Int.mul_ediv_add_emod (n + m - 1) m
  rw [Int.mul_comm] at this
  unfold up
  omega
theorem up_bounds {n m : Int} (hm : 0 < m) : n ≤ up n m ∧ up n m < n + m := by
  have a := Int.emod_nonneg (n + m - 1) (Int.ne_of_gt hm)
  have b := Int.emod_lt_of_pos (n + m - 1) hm
  rw [up_eq hm]
  omega
theorem up_mod {n m : Int} : up n m % m = 0 := Int.mul_emod_left _ _
def upL (n m : Int) : Int := if n % m = 0 then n else n + m - n % m
theorem mod_unique {a b m : Int} (hm : 0 < m) (ha : a % m = 0) (hb : b % m = 0) (h1 : a - b < m) (h2 : b - a < m) : a = b := by
  have h : (a - b) % m = 0 := by rw [Int.sub_emod, ha, hb]; simp
  obtain ⟨c, hc⟩ := Int.dvd_of_emod_eq_zero h
  by_cases c0 : c = 0
  · subst c0; omega
  · rcases Int.lt_or_gt_of_ne c0 with c1 | c1
    · have : m * c ≤ m * (-1) := Int.mul_le_mul_of_nonneg_left (by omega) (by omega)
      omega
    · have : m * 1 ≤ m * c := Int.mul_le_mul_of_nonneg_left (by omega) (by omega)
      omega
def maxL (d : Int) (l : List Int) : Int := l.foldr max d
theorem maxL_ge {d : Int} : ∀ {l : List Int} {a : Int}, a ∈ l → a ≤ maxL d l
  | b :: r, a, h => by
    show a ≤ max b (maxL d r)
    rcases List.mem_cons.mp h with rfl | h
    · exact Int.le_max_left _ _
    · exact Int.le_trans (maxL_ge h) (Int.le_max_right _ _)
theorem maxL_is {d M : Int} {l : List Int} (hm : M ∈ l) (hd : d ≤ M) (hM : ∀ a ∈ l, a ≤ M) : M = maxL d l := by
  refine Int.le_antisymm (maxL_ge hm) ?_
  clear hm
  induction l with
  | nil => exact hd
  | cons b r ih =>
    show max b (maxL d r) ≤ M
    exact Int.max_le.mpr ⟨hM b List.mem_cons_self, ih fun a ha => hM a (List.mem_cons_of_mem _ ha)⟩
def ends (e : Int) : List (Int × Int) → List Int
  | [] => []
  | r :: rs => (up e r.2 + r.1) :: ends (up e r.2 + r.1) rs
def lastEnd (e : Int) : List (Int × Int) → Int
  | [] => e
  | r :: rs => lastEnd (up e r.2 + r.1) rs
def plcs (e : Int) : List (Int × Int) → List Int
  | [] => []
  | r :: rs => up e r.2 :: plcs (up e r.2 + r.1) rs
def Rms (rs : List (Int × Int)) : Prop := ∀ r ∈ rs, 0 ≤ r.1 ∧ 0 < r.2
theorem lastEnd_ge : ∀ {rs : List (Int × Int)} {e : Int}, Rms rs → e ≤ lastEnd e rs
  | [], e, _ => Int.le_refl e
  | r :: rs, e, h => by
    obtain ⟨a, b⟩ := h r List.mem_cons_self
    have := lastEnd_ge (rs := rs) (e := up e r.2 + r.1) fun x hx => h x (List.mem_cons_of_mem _ hx)
    have := (up_bounds (n := e) b).1
    show e ≤ lastEnd (up e r.2 + r.1) rs
    omega
theorem ends_max : ∀ {rs : List (Int × Int)} {e : Int}, Rms rs → rs ≠ [] → lastEnd e rs ∈ ends e rs ∧ ∀ a ∈ ends e rs, a ≤ lastEnd e rs
  | [], _, _, h => absurd rfl h
  | [r], e, h, _ => by
    refine ⟨List.mem_cons_self, fun a ha => ?_⟩
    rcases List.mem_cons.mp ha with rfl | ha
    · exact Int.le_refl _
    · cases ha
  | r :: s :: rs, e, h, _ => by
    have ih := ends_max (rs := s :: rs) (e := up e r.2 + r.1) (fun x hx => h x (List.mem_cons_of_mem _ hx)) (by simp)
    refine ⟨List.mem_cons_of_mem _ ih.1, fun a ha => ?_⟩
    rcases List.mem_cons.mp ha with rfl | ha
    · exact lastEnd_ge (rs := s :: rs) fun x hx => h x (List.mem_cons_of_mem _ hx)
    · exact ih.2 a ha
theorem plcs_length : ∀ (rs : List (Int × Int)) (e : Int), (plcs e rs).length = rs.length
  | [], _ => rfl
  | r :: rs, e => by show (plcs _ rs).length + 1 = _; rw [plcs_length rs]; rfl
theorem plcs_snoc : ∀ (rs : List (Int × Int)) (r : Int × Int) (e : Int), plcs e (rs ++ [r]) = plcs e rs ++ [up (lastEnd e rs) r.2]
  | [], _, _ => rfl
  | s :: rs, r, e => by show up e s.2 :: plcs _ (rs ++ [r]) = up e s.2 :: (plcs _ rs ++ _); rw [plcs_snoc rs]; rfl
theorem lastEnd_snoc : ∀ (rs : List (Int × Int)) (r : Int × Int) (e : Int), lastEnd e (rs ++ [r]) = up (lastEnd e rs) r.2 + r.1
  | [], _, _ => rfl
  | s :: rs, r, e => lastEnd_snoc rs r _
theorem ends_zip : ∀ (rs : List (Int × Int)) (e : Int), ends e rs = ((plcs e rs).zip rs).map fun p => p.1 + p.2.1
  | [], _ => rfl
  | r :: rs, e => by show _ :: ends _ rs = _ :: _; rw [ends_zip rs]; rfl
def rcdRm (rs : List (Int × Int)) : Int × Int := (up (lastEnd 0 rs) (maxL 1 (rs.map (·.2))), maxL 1 (rs.map (·.2)))
def choRm (rs : List (Int × Int)) : Int × Int := (up (up 1 (maxL 1 (rs.map (·.2))) + maxL 0 (rs.map (·.1))) (maxL 1 (rs.map (·.2))), maxL 1 (rs.map (·.2)))
mutual
def Kd.rm : Kd → Int × Int
  | .num w m => (w, m)
  | .row k n => (n * up k.rm.1 k.rm.2, k.rm.2)
  | .rcd fs => rcdRm (rmF fs)
  | .cho ks => choRm (rmK ks)
def rmF : List (Str × Kd) → List (Int × Int)
  | [] => []
  | f :: r => f.2.rm :: rmF r
def rmK : List Kd → List (Int × Int)
  | [] => []
  | k :: r => k.rm :: rmK r
end
mutual
def Kd.deep : Kd → Nat
  | .num _ _ => 1
  | .row k _ => k.deep + 1
  | .rcd fs => deepF fs + 1
  | .cho ks => deepK ks + 1
def deepF : List (Str × Kd) → Nat
  | [] => 0
  | f :: r => max f.2.deep (deepF r)
def deepK : List Kd → Nat
  | [] => 0
  | k :: r => max k.deep (deepK r)
end
mutual
def Kd.Ok : Kd → Prop
  | .num w m => 1 ≤ w ∧ w ≤ 8 ∧ 1 ≤ m ∧ m ≤ 8
  | .row k n => k.Ok ∧ 0 ≤ n ∧ n ≤ 100
  | .rcd fs => okF fs ∧ fs.length ≤ 10
  | .cho ks => okK ks ∧ ks.length ≤ 10
def okF : List (Str × Kd) → Prop
  | [] => True
  | f :: r => f.2.Ok ∧ okF r
def okK : List Kd → Prop
  | [] => True
  | k :: r => k.Ok ∧ okK r
end
theorem maxL_le {d M : Int} : ∀ {l : List Int}, d ≤ M → (∀ a ∈ l, a ≤ M) → maxL d l ≤ M
  | [], hd, _ => hd
  | b :: r, hd, h => Int.max_le.mpr ⟨h b List.mem_cons_self, maxL_le hd fun a ha => h a (List.mem_cons_of_mem _ ha)⟩
theorem maxL_d {d : Int} : ∀ (l : List Int), d ≤ maxL d l
  | [] => Int.le_refl _
  | b :: r => Int.le_trans (maxL_d r) (Int.le_max_right _ _)
def Bd (B : Int) (r : Int × Int) : Prop := 0 ≤ r.1 ∧ r.1 ≤ B ∧ 1 ≤ r.2 ∧ r.2 ≤ 8
theorem lastEnd_le {B : Int} : ∀ {rs : List (Int × Int)} {e : Int}, 0 ≤ e → (∀ r ∈ rs, Bd B r) → 0 ≤ lastEnd e rs ∧ lastEnd e rs ≤ e + (rs.length : Int) * (B + 8)
  | [], e, h0, _ => ⟨h0, by simp [lastEnd]⟩
  | r :: rs, e, h0, h => by
    obtain ⟨a, b, c, d⟩ := h r List.mem_cons_self
    obtain ⟨u1, u2⟩ := up_bounds (n := e) (m := r.2) (by omega)
    have ih := lastEnd_le (B := B) (rs := rs) (e := up e r.2 + r.1) (by omega) fun x hx => h x (List.mem_cons_of_mem _ hx)
    refine ⟨ih.1, ?_⟩
    show lastEnd (up e r.2 + r.1) rs ≤ _
    have e1 : ((r :: rs).length : Int) * (B + 8) = (rs.length : Int) * (B + 8) + (B + 8) := by
      rw [List.length_cons]
      push_cast
      rw [Int.add_mul]
      omega
    rw [e1]
    omega
theorem mx_bd {B : Int} {rs : List (Int × Int)} (h : ∀ r ∈ rs, Bd B r) : 1 ≤ maxL 1 (rs.map (·.2)) ∧ maxL 1 (rs.map (·.2)) ≤ 8 :=
  ⟨maxL_d _, maxL_le (by decide) fun a ha => by obtain ⟨r, hr, rfl⟩ := List.mem_map.mp ha; exact (h r hr).2.2.2⟩
theorem rcd_bd {B : Int} {rs : List (Int × Int)} (h : ∀ r ∈ rs, Bd B r) (hl : rs.length ≤ 10) (hB : 0 ≤ B) : Bd (1000 * (B + 8)) (rcdRm rs) := by
  obtain ⟨a, b⟩ := mx_bd h
  obtain ⟨c, d⟩ := lastEnd_le (e := 0) (by omega) h
  obtain ⟨u1, u2⟩ := up_bounds (n := lastEnd 0 rs) (m := maxL 1 (rs.map (·.2))) (by omega)
  have : (rs.length : Int) * (B + 8) ≤ 10 * (B + 8) := Int.mul_le_mul_of_nonneg_right (by omega) (by omega)
  exact ⟨by show 0 ≤ up _ _; omega, by show up _ _ ≤ _; omega, a, b⟩
theorem cho_bd {B : Int} {rs : List (Int × Int)} (h : ∀ r ∈ rs, Bd B r) (hB : 0 ≤ B) : Bd (1000 * (B + 8)) (choRm rs) := by
  obtain ⟨a, b⟩ := mx_bd h
  have c : 0 ≤ maxL 0 (rs.map (·.1)) := maxL_d _
  have d : maxL 0 (rs.map (·.1)) ≤ B := maxL_le hB fun z hz => by obtain ⟨r, hr, rfl⟩ := List.mem_map.mp hz; exact (h r hr).2.1
  obtain ⟨u1, u2⟩ := up_bounds (n := 1) (m := maxL 1 (rs.map (·.2))) (by omega)
  obtain ⟨v1, v2⟩ := up_bounds (n := up 1 (maxL 1 (rs.map (·.2))) + maxL 0 (rs.map (·.1))) (m := maxL 1 (rs.map (·.2))) (by omega)
  exact ⟨by show 0 ≤ up _ _; omega, by show up _ _ ≤ _; omega, a, b⟩
def bnd : Nat → Int
  | 0 => 0
  | n + 1 => 1000 * (bnd n + 8)
theorem bnd_nonneg : ∀ n, 0 ≤ bnd n
  | 0 => Int.le_refl _
  | n + 1 => by have := bnd_nonneg n; show 0 ≤ 1000 * (bnd n + 8); omega
theorem bnd_mono {n m : Nat} (h : n ≤ m) : bnd n ≤ bnd m := by
  induction m with
  | zero => cases (Nat.le_zero.mp h); exact Int.le_refl _
  | succ m ih =>
    by_cases e : n = m + 1
    · subst e; exact Int.le_refl _
    · have := ih (by omega)
      have := bnd_nonneg m
      show bnd n ≤ 1000 * (bnd m + 8)
      omega
theorem Bd.mono {B C : Int} {r : Int × Int} (h : Bd B r) (hb : B ≤ C) : Bd C r := ⟨h.1, Int.le_trans h.2.1 hb, h.2.2⟩
mutual
theorem Kd.bd : ∀ (k : Kd), k.Ok → Bd (bnd k.deep) k.rm
  | .num w m, h => by
    obtain ⟨a, b, c, d⟩ := h
    refine ⟨by show 0 ≤ w; omega, ?_, c, d⟩
    show w ≤ 1000 * (0 + 8)
    omega
  | .row k n, h => by
    obtain ⟨hk, h0, h1⟩ := h
    obtain ⟨a, b, c, d⟩ := Kd.bd k hk
    obtain ⟨u1, u2⟩ := up_bounds (n := k.rm.1) (m := k.rm.2) (by omega)
    refine ⟨Int.mul_nonneg h0 (by omega), ?_, c, d⟩
    have e1 : n * up k.rm.1 k.rm.2 ≤ 100 * up k.rm.1 k.rm.2 := Int.mul_le_mul_of_nonneg_right h1 (by omega)
    show n * up k.rm.1 k.rm.2 ≤ 1000 * (bnd k.deep + 8)
    omega
  | .rcd fs, h => by
    refine rcd_bd (rs := rmF fs) (bdF fs h.1) ?_ (bnd_nonneg _)
    have : (rmF fs).length = fs.length := lenF fs
    rw [this]; exact h.2
  | .cho ks, h => cho_bd (rs := rmK ks) (bdK ks h.1) (bnd_nonneg _)
theorem bdF : ∀ (fs : List (Str × Kd)), okF fs → ∀ r ∈ rmF fs, Bd (bnd (deepF fs)) r
  | [], _, _, h => nomatch h
  | f :: fs, h, r, hr => by
    have hr' : r ∈ f.2.rm :: rmF fs := hr
    rcases List.mem_cons.mp hr' with rfl | hr'
    · exact (Kd.bd f.2 h.1).mono (bnd_mono (Nat.le_max_left _ _))
    · exact (bdF fs h.2 r hr').mono (bnd_mono (Nat.le_max_right _ _))
theorem bdK : ∀ (ks : List Kd), okK ks → ∀ r ∈ rmK ks, Bd (bnd (deepK ks)) r
  | [], _, _, h => nomatch h
  | k :: ks, h, r, hr => by
    have hr' : r ∈ k.rm :: rmK ks := hr
    rcases List.mem_cons.mp hr' with rfl | hr'
    · exact (Kd.bd k h.1).mono (bnd_mono (Nat.le_max_left _ _))
    · exact (bdK ks h.2 r hr').mono (bnd_mono (Nat.le_max_right _ _))
theorem lenF : ∀ (fs : List (Str × Kd)), (rmF fs).length = fs.length
  | [] => rfl
  | f :: fs => by show (rmF fs).length + 1 = _; rw [lenF fs]; rfl
end
theorem lenK : ∀ (ks : List Kd), (rmK ks).length = ks.length
  | [] => rfl
  | f :: fs => by show (rmK fs).length + 1 = _; rw [lenK fs]; rfl
inductive Dt where
  | int (i : Int)
  | str (x : Str)
  | bl (b : Bool)
  | tup (ds : List Dt)
  | lst (ds : List Dt)
mutual
def Kd.dt : Kd → Dt
  | .num w m => .tup [.str "number", .int w, .int m]
  | .row k n => .tup [.str "row", k.dt, .int n]
  | .rcd fs => .tup [.str "record", .lst (dtF fs)]
  | .cho ks => .tup [.str "choice", .lst (dtK ks)]
def dtF : List (Str × Kd) → List Dt
  | [] => []
  | f :: r => .tup [.str f.1, f.2.dt] :: dtF r
def dtK : List Kd → List Dt
  | [] => []
  | k :: r => k.dt :: dtK r
end
mutual
def Dt.deep : Dt → Nat
  | .int _ => 1
  | .str _ => 1
  | .bl _ => 1
  | .tup ds => deepD ds + 1
  | .lst ds => deepD ds + 1
def deepD : List Dt → Nat
  | [] => 0
  | d :: r => max d.deep (deepD r)
end
theorem Kd.deep_pos : ∀ k : Kd, 1 ≤ k.deep
  | .num _ _ => Nat.le_refl _
  | .row k _ => Nat.le_add_left 1 k.deep
  | .rcd fs => Nat.le_add_left 1 (deepF fs)
  | .cho ks => Nat.le_add_left 1 (deepK ks)
mutual
theorem Kd.dt_deep : ∀ k : Kd, k.dt.deep ≤ 3 * k.deep
  | .num w m => by show max 1 (max 1 (max 1 0)) + 1 ≤ 3; decide
  | .row k n => by
    have := Kd.dt_deep k
    show max 1 (max k.dt.deep (max 1 0)) + 1 ≤ 3 * (k.deep + 1)
    omega
  | .rcd fs => by
    have := dtF_deep fs
    show max 1 (max (deepD (dtF fs) + 1) 0) + 1 ≤ 3 * (deepF fs + 1)
    omega
  | .cho ks => by
    have := dtK_deep ks
    show max 1 (max (deepD (dtK ks) + 1) 0) + 1 ≤ 3 * (deepK ks + 1)
    omega
theorem dtF_deep : ∀ fs : List (Str × Kd), deepD (dtF fs) ≤ 3 * deepF fs + 1
  | [] => by decide
  | f :: r => by
    have := Kd.dt_deep f.2
    have := dtF_deep r
    have := Kd.deep_pos f.2
    show max (max 1 (max f.2.dt.deep 0) + 1) (deepD (dtF r)) ≤ 3 * max f.2.deep (deepF r) + 1
    omega
theorem dtK_deep : ∀ ks : List Kd, deepD (dtK ks) ≤ 3 * deepK ks + 1
  | [] => by decide
  | k :: r => by
    have := Kd.dt_deep k
    have := dtK_deep r
    show max k.dt.deep (deepD (dtK r)) ≤ 3 * max k.deep (deepK r) + 1
    omega
end
end Lf

set_option Elab.async false
set_option linter.all false
set_option maxRecDepth 100000
namespace Lf
open PySem L2
mutual
def IsD (H : Hp) : Dt → V → Prop
  | .int i, v => v = .int i
  | .str x, v => v = .str x
  | .bl b, v => v = .bl b
  | .tup ds, v => ∃ a vs, v = .ref a ∧ H a = some (.tup vs) ∧ IsDs H ds vs
  | .lst ds, v => ∃ a vs, v = .ref a ∧ H a = some (.lst vs) ∧ IsDs H ds vs
def IsDs (H : Hp) : List Dt → List V → Prop
  | [], vs => vs = []
  | d :: r, vs => ∃ v vr, vs = v :: vr ∧ IsD H d v ∧ IsDs H r vr
end
mutual
theorem IsD.same {H H' : Hp} (e : Same H H') : ∀ {d : Dt} {v : V}, IsD H d v → IsD H' d v
  | .int _, _, h => h
  | .str _, _, h => h
  | .bl _, _, h => h
  | .tup ds, _, ⟨a, vs, h1, h2, h3⟩ => ⟨a, vs, h1, e _ _ h2, IsDs.same e h3⟩
  | .lst ds, _, ⟨a, vs, h1, h2, h3⟩ => ⟨a, vs, h1, e _ _ h2, IsDs.same e h3⟩
theorem IsDs.same {H H' : Hp} (e : Same H H') : ∀ {ds : List Dt} {vs : List V}, IsDs H ds vs → IsDs H' ds vs
  | [], _, h => h
  | d :: r, _, ⟨v, vr, h1, h2, h3⟩ => ⟨v, vr, h1, IsD.same e h2, IsDs.same e h3⟩
end
theorem IsDs.len {H : Hp} : ∀ {ds : List Dt} {vs : List V}, IsDs H ds vs → vs.length = ds.length
  | [], _, h => by cases (show _ = [] from h); rfl
  | d :: r, _, ⟨v, vr, h1, _, h3⟩ => by subst h1; show vr.length + 1 = r.length + 1; rw [IsDs.len h3]
theorem IsDs.get {H : Hp} : ∀ {ds : List Dt} {vs : List V} {i : Nat} {v : V}, IsDs H ds vs → vs[i]? = some v → ∃ d, ds[i]? = some d ∧ IsD H d v
  | [], _, _, _, h, e => by cases (show _ = [] from h); simp at e
  | d :: r, _, 0, v, ⟨u, vr, h1, h2, h3⟩, e => by subst h1; simp at e; subst e; exact ⟨d, rfl, h2⟩
  | d :: r, _, i + 1, v, ⟨u, vr, h1, h2, h3⟩, e => by subst h1; obtain ⟨d', a, b⟩ := IsDs.get (i := i) h3 (by simpa using e); exact ⟨d', by simpa using a, b⟩
theorem IsDs.snoc {H : Hp} {d : Dt} {v : V} (h : IsD H d v) : ∀ {ds : List Dt} {vs : List V}, IsDs H ds vs → IsDs H (ds ++ [d]) (vs ++ [v])
  | [], _, hs => by cases (show _ = [] from hs); exact ⟨v, [], rfl, h, rfl⟩
  | e :: r, _, ⟨u, vr, h1, h2, h3⟩ => by subst h1; exact ⟨u, vr ++ [v], rfl, h2, IsDs.snoc h h3⟩
theorem same_new {H : Hp} {p : Addr} (h : H p = none) (o : HO) : Same H (upd H p o) := fun b u q => by rw [upd_ne (ne_of_none q h)]; exact q
def hide (p : Addr) (H : Hp) : Hp := fun b => if b = p then none else H b
theorem hide_ne {p b : Addr} {H : Hp} (h : b ≠ p) : hide p H b = H b := if_neg h
theorem hide_sub (p : Addr) (H : Hp) : Same (hide p H) H := fun b o h => by
  by_cases e : b = p
  · subst e; rw [show hide b H b = none from if_pos rfl] at h; cases h
  · rw [hide_ne e] at h; exact h
theorem hide_some {p b : Addr} {H : Hp} {o : HO} (h : hide p H b = some o) : b ≠ p ∧ H b = some o := by
  by_cases e : b = p
  · subst e; rw [show hide b H b = none from if_pos rfl] at h; cases h
  · rw [hide_ne e] at h; exact ⟨e, h⟩
theorem hide_same {p : Addr} {H H' : Hp} (e : Same H H') : Same (hide p H) (hide p H') := fun b o h => by
  obtain ⟨n, q⟩ := hide_some h
  rw [hide_ne n]
  exact e b o q
abbrev SameX (p : Addr) (H H' : Hp) : Prop := Same (hide p H) (hide p H')
theorem SameX.upd (p : Addr) (H : Hp) (o : HO) : SameX p H (L2.upd H p o) := fun b u h => by
  obtain ⟨n, q⟩ := hide_some h
  rw [hide_ne n, upd_ne n]
  exact q
theorem SameX.get {p b : Addr} {H H' : Hp} {o : HO} (e : SameX p H H') (n : b ≠ p) (h : H b = some o) : H' b = some o := by
  have := e b o (by rw [hide_ne n]; exact h)
  rw [hide_ne n] at this
  exact this
theorem SameX.of {p : Addr} {H H' : Hp} (e : Same H H') : SameX p H H' := hide_same e
theorem seq_x {K : PySem.W.Frag} {H : Hp} {a p : Addr} {xs : List V} (h : SqL K H a xs) (hp : H p = none) {H' : Hp} (e : SameX p H H') : SqL K H' a xs := by
  rcases h with (h | ⟨o, h⟩) | h
  · exact .inl (.inl (e.get (ne_of_none h hp) h))
  · exact .inl (.inr ⟨o, e.get (ne_of_none h hp) h⟩)
  · exact .inr h
theorem atI_in {α : Type} {xs : List α} {i : Int} (h0 : 0 ≤ i) (h1 : i < (xs.length : Int)) : ∃ v, atI xs i = some v ∧ v ∈ xs := by
  have hk : i.toNat < xs.length := by omega
  have ek : ((i.toNat : Nat) : Int) = i := by omega
  have q : atI xs ((i.toNat : Nat) : Int) = some xs[i.toNat] := atI_nat (List.getElem?_eq_getElem hk)
  rw [ek] at q
  exact ⟨_, q, List.getElem_mem _⟩
theorem iteND {c A B : Prop} [Decidable c] (h : ¬ c) (hB : B) : if decide c = true then A else B := by
  rw [decide_eq_false h]
  exact iteF hB
theorem iteDT {c A B : Prop} [Decidable c] (h : c) (hA : A) : if decide c = true then A else B := by
  rw [decide_eq_true h]
  exact iteT hA
theorem lists3 (n : Nat) (h : n ≤ 1000) : n ≤ sizeLine := Nat.le_of_lt (small1000 h)
theorem str_ne {x y : Str} (h : (x == y) = false) : ¬ V.str x = V.str y := fun e => by
  have e' : x = y := V.str.inj e
  rw [e', beq_self_eq_true] at h
  cases h
end Lf

set_option Elab.async false
set_option linter.all false
set_option maxRecDepth 100000

namespace L2
open PySem PySem.Spec PyProof.Rows

section
variable {κ : Type} [DecidableEq κ]
def valV (kvs : List (κ × V)) (k : κ) : Option V := (kvs.find? fun kv => decide (kv.1 = k)).map (·.2)
def putK (kvs : List (κ × V)) (k : κ) (v : V) : List (κ × V) :=
  if (kvs.any fun kv => decide (kv.1 = k)) = true then kvs.map (fun kv => if kv.1 = k then (kv.1, v) else kv) else kvs ++ [(k, v)]
def dropK (kvs : List (κ × V)) (k : κ) : List (κ × V) := kvs.filter fun kv => decide (kv.1 ≠ k)

end


abbrev KT (H : Hp) : List (List Key × V) → List (List Key × Addr × Value) → Prop := Paired fun p q => p.1 = q.1 ∧ H q.2.1 = some (.tup (p.1.map kV)) ∧ RelV p.2 q.2.2
section
variable {P : Program} {w : World} {H : Hp} {h : Heap} {a : Addr}
end

def DGet (H : Hp) (a : Addr) (y : V) (r : Option V) : Prop :=
  (∃ kvs k, Rd H a (.dK kvs) ∧ y = kV k ∧ r = valV kvs k) ∨ ∃ kvs k b, Rd H a (.dT kvs) ∧ y = .ref b ∧ H b = some (.tup (k.map kV)) ∧ r = valV kvs k
def DPut (H : Hp) (a : Addr) (y v : V) (H' : Hp) : Prop :=
  (∃ kvs k, H a = some (.dK kvs) ∧ y = kV k ∧ kvs.length < sizeLine ∧ H' = upd H a (.dK (putK kvs k v))) ∨
  ∃ kvs k b, H a = some (.dT kvs) ∧ y = .ref b ∧ H b = some (.tup (k.map kV)) ∧ kvs.length < sizeLine ∧ H' = upd H a (.dT (putK kvs k v))
section
variable {X : Cx} {pins : List (Addr × Obj)} {σ : St} {H : Hp} {s : Shared} {a : Addr} {y v : V} {u r : Value} {o : Option V} {A : Around} {E : Value → Shared → Prop}

end

section
variable {X : Cx} {pins : List (Addr × Obj)} {σ : St} {H : Hp} {s : Shared} {a : Addr} {kvs : List (Key × V)} {k : Key} {u : Value} {A : Around} {E : Value → Shared → Prop}
end


def NoSl (i : Expr) : Prop := ∀ ov iv, subscripted i false ov iv = operate [ov, iv] (getItem ov iv)
def tDGet (td ty : TE) : TE := fun σ H Q => td σ H fun x H1 => ty σ H1 fun y H2 => ∃ a v, x = .ref a ∧ DGet H2 a y (some v) ∧ Q v H2
def tDIn (ty td : TE) : TE := fun σ H Q => ty σ H fun y H1 => td σ H1 fun x H2 => ∃ a o, x = .ref a ∧ DGet H2 a y o ∧ Q (.bl o.isSome) H2
def tDNotIn (ty td : TE) : TE := fun σ H Q => ty σ H fun y H1 => td σ H1 fun x H2 => ∃ a o, x = .ref a ∧ DGet H2 a y o ∧ Q (.bl (!o.isSome)) H2
def sDPut (td ty tv : TE) : TS := fun D σ H => tv σ H fun v H1 => td σ H1 fun x H2 => ty σ H2 fun y H3 => ∃ a H4, x = .ref a ∧ DPut H3 a y v H4 ∧ D.nx σ H4
def sDAug (td ty tv : TE) (rd : V → V → Hp → VK → Prop) : TS := fun D σ H => td σ H fun x H1 => ty σ H1 fun y H2 => ∃ a v, x = .ref a ∧ DGet H2 a y (some v) ∧
  tv σ H2 fun y2 H3 => rd v y2 H3 fun z H4 => ∃ H5, DPut H4 a y z H5 ∧ D.nx σ H5
def sDDel (td ty : TE) : TS := fun D σ H => td σ H fun x H1 => ty σ H1 fun y H2 => ∃ a kvs k, x = .ref a ∧ H2 a = some (.dK kvs) ∧ y = kV k ∧ (valV kvs k).isSome = true ∧ D.nx σ (upd H2 a (.dK (dropK kvs k)))

section
variable {X : Cx} {o i e value : Expr} {pos pos' tpos : Pos} {td ty tv : TE}
end


def tDNewK : TE := fun _ H Q => ∀ p, H p = none → Q (.ref p) (upd H p (.dK []))
def tDNewT : TE := fun _ H Q => ∀ p, H p = none → Q (.ref p) (upd H p (.dT []))
section
variable {X : Cx} {pos : Pos}
end

def tPairs : List (TE × TE) → St → Hp → (List (V × V) → Hp → Prop) → Prop
  | [], _, H, Q => Q [] H
  | (tk, tv) :: r, σ, H, Q => tk σ H fun x H1 => tv σ H1 fun y H2 => tPairs r σ H2 fun ps H3 => Q ((x, y) :: ps) H3
abbrev VV : List (V × V) → List (Value × Value) → Prop := Paired fun p q => RelV p.1 q.1 ∧ RelV p.2 q.2
def PPs (X : Cx) (pos : Pos) (keys : List (Option Expr)) (values : List Expr) (trs : List (TE × TE)) : Prop :=
  ∀ (pins : List (Addr × Obj)) (s : Shared) (σ : St) (H : Hp) (Q : List (V × V) → Hp → Prop), Inv X pins σ H s → tPairs trs σ H Q →
    wpAny (model X.prog X.w) X.A (evalPairs (pairTrees keys values X.env pos)) (fun vs s' => ∃ ps H', Inv X pins σ H' s' ∧ VV ps vs ∧ Q ps H') X.xe s
def mergeK (kvs more : List (Key × V)) : List (Key × V) := more.foldl (fun acc kv => putK acc kv.1 kv.2) kvs
def tDisp (trs : List (TE × TE)) : TE := fun σ H Q => ∀ p, H p = none → tPairs trs σ (upd H p (.dK [])) fun ps H2 => H2 p = some (.dK []) ∧ ∃ kvs : List (Key × V), ps = kvs.map (fun kv => (kV kv.1, kv.2)) ∧ kvs.length ≤ 15 ∧ Q (.ref p) (upd H2 p (.dK (mergeK [] kvs)))
structure M1 (X : Cx) (o : Expr) (m : Str) (apos : Pos) (e : Expr) (cpos : Pos) : Prop where
  base : attributeBase o m X.env (eval o X.env) = eval o X.env
  few : ((backTo cpos (starEach [e] X.env)).all (fun x => !x.1) && (backToKw cpos (keywordEach [] X.env)).all (fun x => x.1.isSome)
    && decide (([e] : List Expr).length + ([] : List Keyword).length + (if ([] : List Keyword).isEmpty then 0 else 1) < 30)) = true
  line : (apos.endLine == cpos.line) = true
  trees : backTo cpos (starEach [e] X.env) = [(false, eval e X.env)]
structure M2 (X : Cx) (o : Expr) (m : Str) (apos : Pos) (e f : Expr) (cpos : Pos) : Prop where
  base : attributeBase o m X.env (eval o X.env) = eval o X.env
  few : ((backTo cpos (starEach [e, f] X.env)).all (fun x => !x.1) && (backToKw cpos (keywordEach [] X.env)).all (fun x => x.1.isSome)
    && decide (([e, f] : List Expr).length + ([] : List Keyword).length + (if ([] : List Keyword).isEmpty then 0 else 1) < 30)) = true
  line : (apos.endLine == cpos.line) = true
  trees : backTo cpos (starEach [e, f] X.env) = [(false, eval e X.env), (false, eval f X.env)]

def IsD (H : Hp) (a : Addr) : Prop := (∃ kvs, Rd H a (.dK kvs)) ∨ ∃ kvs, Rd H a (.dT kvs)
section
variable {X : Cx} {pins : List (Addr × Obj)} {σ : St} {H : Hp} {s : Shared} {a : Addr} {y d : V} {u r : Value} {o : Option V} {A : Around} {E : Value → Shared → Prop}
end

def tDGet1 (td ty : TE) : TE := fun σ H Q => td σ H fun x H1 => ∃ a, x = .ref a ∧ IsD H1 a ∧ ty σ H1 fun y H2 => ∃ o, DGet H2 a y o ∧ Q (o.getD .non) H2
def tDGet2 (td ty tx : TE) : TE := fun σ H Q => td σ H fun x H1 => ∃ a, x = .ref a ∧ IsD H1 a ∧ ty σ H1 fun y H2 => tx σ H2 fun z H3 => ∃ o, DGet H3 a y o ∧ Q (o.getD z) H3
def tDPop1 (td ty : TE) : TE := fun σ H Q => td σ H fun x H1 => ∃ a, x = .ref a ∧ IsD H1 a ∧ ty σ H1 fun y H2 => ∃ kvs k v, H2 a = some (.dK kvs) ∧ y = kV k ∧ valV kvs k = some v ∧ Q v (upd H2 a (.dK (dropK kvs k)))
def tDPop2 (td ty tx : TE) : TE := fun σ H Q => td σ H fun x H1 => ∃ a, x = .ref a ∧ IsD H1 a ∧ ty σ H1 fun y H2 => tx σ H2 fun z H3 => ∃ kvs k, H3 a = some (.dK kvs) ∧ y = kV k ∧
  (∀ v, valV kvs k = some v → Q v (upd H3 a (.dK (dropK kvs k)))) ∧ (valV kvs k = none → Q z H3)
section
variable {X : Cx} {o e f : Expr} {apos cpos : Pos} {td ty tx : TE}
end

section
variable {X : Cx} {pins : List (Addr × Obj)} {σ : St} {H : Hp} {s : Shared} {a : Addr} {kvs : List (Key × V)} {A : Around} {E : Value → Shared → Prop}
end


section
variable {X : Cx} {pins : List (Addr × Obj)} {σ : St} {H : Hp} {s : Shared} {a : Addr} {y : V} {u : Value} {A : Around} {E : Value → Shared → Prop}
end
end L2

set_option Elab.async false
set_option linter.all false
set_option maxRecDepth 100000
set_option maxHeartbeats 4000000
namespace L2
open PySem PySem.Spec PyProof.Rows
theorem bt_all : bootBuiltins "all" = some (.builtin "all") := by decide +kernel
theorem vals_bl : ∀ {bs : List Bool} {us : List Value}, Vals (bs.map V.bl) us → us = bs.map Value.bool
  | [], _, h => by cases h; rfl
  | b :: bs, _, h => by
    cases h with
    | cons ra rb =>
      cases ra
      rw [vals_bl rb]
      rfl
theorem range_all : ∀ (bs : List Bool), (List.range bs.length).all (fun i => bs[i]?.getD false) = bs.all id := by
  intro bs
  rw [Bool.eq_iff_iff, List.all_eq_true, List.all_eq_true]
  constructor
  · intro h b hb
    obtain ⟨i, hi, rfl⟩ := List.getElem_of_mem hb
    have := h i (List.mem_range.mpr hi)
    rw [List.getElem?_eq_getElem hi] at this
    exact this
  · intro h i hi
    have hi' := List.mem_range.mp hi
    rw [List.getElem?_eq_getElem hi']
    exact h _ (List.getElem_mem hi')
section
variable {X : Cx}
def rAllL (K : PySem.W.Frag) : List V → Hp → VK → Prop := fun xs H Q => ∃ (p : Addr) (bs : List Bool), xs = [.ref p] ∧ SqL K H p (bs.map V.bl) ∧ Q (.bl (bs.all id)) H
theorem call_allL (hc : X.calm = true) : CallR X (.builtin "all") (rAllL X.K) := by
  intro pins s σ H xs us Q I r h
  obtain ⟨p, bs, rfl, hq, q⟩ := h
  obtain ⟨u, rfl, rx⟩ := vals1 r
  cases rx
  obtain ⟨its, r', pl, hz⟩ := I.list hq
  have hi := vals_bl r'
  subst hi
  have hh : X.A.in1.handled = none := I.ok.hd hc
  have lt : p < s.heap.objs.size := by obtain ⟨_, e, _⟩ := pl.isList; exact Heap.lt_size e
  refine call_all_walk (wpAny_pyIter_list pl.isList ⟨_, _, _, _, _, _, fun i => bs[i]?.getD false, rfl, Walks.list hh s.heap.objs.size p (Nat.ne_of_lt lt) (bs.map Value.bool).toArray, ⟨⟨_, Heap.get?_push_size _ rfl, rfl, rfl⟩, ?_⟩, ?_, fun h' tk hk => ?_⟩)
  · obtain ⟨o, e, r⟩ := pl.isList
    exact ⟨o, Heap.get?_push_of_some _ e, r⟩
  · intro i v s' Q' E' hv hQ
    have hv' : (bs.map Value.bool)[i]? = some v := by simpa using hv
    rw [List.getElem?_map] at hv'
    cases hb : bs[i]? with
    | none => rw [hb] at hv'; cases hv'
    | some b =>
      rw [hb] at hv'
      cases hv'
      have hQ' : Q' (bs[i]?.getD false) s' := hQ
      rw [hb] at hQ'
      exact wpAny_truthy_bool hQ'
  · have hk' : ∀ b o, s.heap.get? b = some o → h'.get? b = some o := fun b o e => hk b o (by simp; exact Nat.ne_of_lt (Heap.lt_size e)) (Heap.get?_push_of_some _ e)
    refine ⟨.bl _, H, I.kept hk', ?_, q⟩
    show Value.bool _ = Value.bool _
    rw [List.size_toArray, List.length_map, range_all]
end
def Its (x : Str) : It := ⟨fun i H => i < x.cps.size, fun i H v H' => H' = H ∧ ∃ c, x.cps[i]? = some c ∧ v = .str ⟨#[c]⟩, fun i H => x.cps.size ≤ i⟩
def iStr (tl : TE) : TI := fun σ H R => tl σ H fun v H1 => ∃ x, v = .str x ∧ R (Its x) H1
end L2

set_option Elab.async false
set_option linter.all false
set_option maxRecDepth 100000
set_option maxHeartbeats 4000000
namespace L2
open PySem PySem.Spec PyProof.Rows
section
variable {X : Cx}
def rEqP (K : PySem.W.Frag) (neg : Bool) : R2 := fun x y H Q => ∃ (p b : Addr) (i j k l : Int), x = .ref p ∧ y = .ref b ∧ SqT K H p [.int i, .int j] ∧ SqT K H b [.int k, .int l] ∧ Q (.bl (if neg then !(decide (i = k) && decide (j = l)) else (decide (i = k) && decide (j = l)))) H
end
end L2

set_option Elab.async false
set_option linter.all false
set_option maxRecDepth 100000
set_option maxHeartbeats 4000000
namespace L2
open PySem PySem.Spec PyProof.Rows
def Ite (K : PySem.W.Frag) (a : Addr) : It :=
  ⟨fun i H => ∃ xs x, SqL K H a xs ∧ xs[i]? = some x,
   fun i H v H' => ∃ p x, v = .ref p ∧ H p = none ∧ H' = upd H p (.tup [.int (i : Int), x]) ∧ ∀ xs, SqL K H a xs → xs[i]? = some x,
   fun i H => ∃ xs, SqL K H a xs ∧ xs.length ≤ i⟩
def iEnum (K : PySem.W.Frag) (ta : TA) : TI := fun σ H R => ta σ H fun vs H1 => ∃ a, vs = [.ref a] ∧ (∃ xs, SqL K H1 a xs) ∧ R (Ite K a) H1
section
variable {X : Cx}
def rRevL (K : PySem.W.Frag) : V → Hp → VK → Prop := fun x H Q => ∃ a xs, x = .ref a ∧ SqL K H a xs ∧ ∀ p, H p = none → Q (.ref p) (upd H p (.lst xs.reverse))
def tRevL (K : PySem.W.Frag) (te : TE) : TE := fun σ H Q => te σ H fun x H1 => rRevL K x H1 Q
theorem pe_revL {e : Expr} {te : TE} {k : Nat} {p1 p2 p3 pos : Pos} (he : PE X e te) : PE X (.Subscript e (.Slice none none (some (.UnaryOp .USub (.Constant (.int 1) k p1) p2)) p3) pos) (tRevL X.K te) := by
  intro pins s σ H Q I h
  refine Subscript_ (thn (he pins s σ H _ I h) fun v s1 ⟨x, H1, I1, r1, q1⟩ => ?_)
  obtain ⟨a, xs, rfl, hx, q⟩ := q1
  cases r1
  refine wpAny_Slice ?_
  rw [evalPart_none]
  refine wpAny_pure (wpAny_pure ?_)
  rw [evalPart_some]
  refine thn ((pe_un un_neg pe_int : PE X (.UnaryOp .USub (.Constant (.int 1) k p1) p2) _) pins s1 σ H1 (fun x H' => x = .int (-1) ∧ H' = H1) I1 ⟨_, rfl, rfl, rfl⟩) fun vs s2 ⟨y, H2, I2, r2, e2, e3⟩ => ?_
  subst e2 e3
  obtain ⟨t, rfl⟩ := r2
  have I3 : Inv X pins σ H2 { s2 with heap := s2.heap.push { cls := .type "slice", data := .fields #[.none, .none, .int (-1) t] } } := I2.kept (t' := s2.toks) fun b ob q => Heap.get?_push_of_some _ q
  obtain ⟨its, r, ht, hz⟩ := I3.list hx
  have hlen := r.length
  refine tail_any (ops := [.ref a, .ref s2.heap.objs.size]) ht.isList.typeIs slot_list_getitem.lookup ?_ (by with_unfolding_all rfl)
  refine wpAny_getItem_list_slice ht.isList (Heap.IsSliceOf.new ..) .none .none (.int _ _) (by simp) ?_ (by rw [List.size_toArray] <;> omega)
  rw [PySem.W.krv_pick]
  refine ⟨.ref _, _, I3.laid (t' := s2.toks) (o := .lst xs.reverse) (fun b ob q => Heap.get?_push_of_some _ q) (Nat.le_refl _) ?_, rfl, q _ (I3.hok.fresh (Nat.le_refl _))⟩
  exact ⟨by rw [List.length_reverse]; exact hz, its.reverse, 0, r.reverse, Heap.get?_push_size _ rfl⟩
end
end L2

set_option Elab.async false
set_option linter.all false
set_option maxRecDepth 100000
set_option maxHeartbeats 4000000
namespace L2
open PySem PySem.Spec PyProof.Rows
abbrev IsZipA (h : Heap) (z TI TO T0 : Addr) (f1 : Bool) : Prop :=
  h.get? z = some { cls := .type "zip", dict := none, data := .fields #[rawInt T0, .bool f1, .bool false, .ref TI, .ref TO], slots := #[] }
section
variable {prog : Program} {w : World} {A : Around} {E : Value → Shared → Prop} {s : Shared}
theorem wpAny_ifAlive {a : Addr} {Q : Option Obj → Shared → Prop} (h : Q (s.heap.get? a) s) : wpAny (model prog w) A (loadIfAlive a) Q E s := fun _ _ _ => h
theorem owned_out {z TI TO T0 : Addr} {f1 : Bool} {o0 : Obj} {Q : Bool → Shared → Prop} (hz : IsZipA s.heap z TI TO T0 f1) (h0 : s.heap.get? T0 = some o0)
    (hQ : ∀ h', IsZipA h' z TI TO T0 true → Heap.SameBut z s.heap h' → Q false { s with heap := h' }) : wpAny (model prog w) A (Builtin.SmallTypes.ownedTupleIsFree (.ref z)) Q E s := by
  unfold Builtin.SmallTypes.ownedTupleIsFree
  refine wpAny_bind (wpAny_field hz rfl (x := rawInt T0) rfl ?_)
  show wpAny _ _ (loadIfAlive ((T0 : Nat) : Int).toNat >>= _) _ _ _
  refine wpAny_bind (wpAny_ifAlive ?_)
  rw [Int.toNat_natCast, h0]
  show wpAny _ _ (field (.ref z) 1 >>= _) _ _ _
  refine wpAny_bind (wpAny_field hz rfl (x := .bool f1) rfl ?_)
  cases f1 with
  | true =>
    show wpAny _ _ (pure false) _ _ _
    refine wpAny_pure (hQ s.heap hz ⟨rfl, fun _ _ => rfl⟩)
  | false =>
    show wpAny _ _ (setField (.ref z) 1 (.bool true) >>= fun _ => pure false) _ _ _
    exact wpAny_bind (wpAny_setField_rec hz (by simp) fun h' hz' hs' => wpAny_pure (hQ h' hz' hs'))
theorem zipA_item {t1 t2 : Bool} {z TI TO T0 i1 i2 l1 l2 : Addr} {f1 : Bool} {o0 : Obj} {k1 k2 : Nat} {xs ys : Array Value} {x y : Value} {Q : Value → Shared → Prop} (D : ZipApart z TI TO i1 i2 l1 l2)
    (hz : IsZipA s.heap z TI TO T0 f1) (h0 : s.heap.get? T0 = some o0) (hTI : IsPair s.heap TI (.ref i1) (.ref i2))
    (h1 : SIter t1 s.heap i1 l1 k1) (h2 : SIter t2 s.heap i2 l2 k2) (hl1 : SSeq t1 s.heap l1 xs) (hl2 : SSeq t2 s.heap l2 ys) (hx : xs[k1]? = some x) (hy : ys[k2]? = some y)
    (hQ : ∀ h', IsZipA h' z TI TO T0 true → SIter t1 h' i1 l1 (k1 + 1) → SIter t2 h' i2 l2 (k2 + 1) → IsPair h' s.heap.objs.size x y → h'.objs.size = s.heap.objs.size + 1 →
      (∀ c o, c ≠ z → c ≠ i1 → c ≠ i2 → s.heap.get? c = some o → h'.get? c = some o) → Q (.ref s.heap.objs.size) { s with heap := h' }) :
    wpAny (model prog w) A (Builtin.«zip.__next__» ⟨[.ref z], []⟩) (fun fin s' => ∃ v, fin = .done (.ret v) ∧ Q v s') E s := by
  show wpAny _ _ (field (.ref z) 2 >>= _) _ _ _; refine wpAny_bind (wpAny_field hz rfl (x := .bool false) rfl ?_)
  show wpAny _ _ (field (.ref z) 3 >>= _) _ _ _; refine wpAny_bind (wpAny_field hz rfl (x := .ref TI) rfl ?_); refine wpAny_bind (wpAny_seqItems hTI rfl ?_)
  show wpAny _ _ (Builtin.SmallTypes.ownedTupleIsFree (.ref z) >>= _) _ _ _; refine wpAny_bind (owned_out hz h0 fun q1 z1 s1 => ?_)
  simp only [Bool.false_eq_true, if_false]
  refine wpAny_bind ?_
  rw [List.forIn_toArray]
  simp only [List.forIn_cons, List.forIn_nil]
  refine wpAny_bind (wpAny_bind (wpAny_holding ?_))
  show wpAny _ _ (Builtin.SmallTypes.nextOf (.ref i1) >>= _) _ _ _
  refine wpAny_bind (nextOf_s (h1.to fun o e => s1.extBut _ _ D.i1z e) (hl1.to fun o e => s1.extBut _ _ D.l1z e) hx fun q2 a2 s2 => wpAny_pure ?_)
  refine wpAny_pure ?_
  refine wpAny_bind (wpAny_bind (wpAny_holding ?_))
  show wpAny _ _ (Builtin.SmallTypes.nextOf (.ref i2) >>= _) _ _ _
  refine wpAny_bind (nextOf_s (h2.to fun o e => s2.extBut _ _ D.i12.symm (s1.extBut _ _ D.i2z e)) (hl2.to fun o e => s2.extBut _ _ D.l2i1 (s1.extBut _ _ D.l2z e)) hy fun q3 a3 s3 => wpAny_pure ?_)
  refine wpAny_pure (wpAny_pure ?_)
  show wpAny _ _ (newTuple [x, y] >>= _) _ _ _
  refine wpAny_bind (wpAny_newTuple ?_)
  have hsz : q3.objs.size = s.heap.objs.size := by rw [s3.1, s2.1, s1.1]
  refine wpAny_pure ⟨_, rfl, ?_⟩
  show Q (.ref q3.objs.size) _
  have k3 : ∀ c o, c ≠ z → c ≠ i1 → c ≠ i2 → s.heap.get? c = some o → q3.get? c = some o := fun c o c1 c2 c3 e => s3.extBut _ _ c3 (s2.extBut _ _ c2 (s1.extBut _ _ c1 e))
  have z3 : IsZipA q3 z TI TO T0 true := s3.extBut _ _ D.i2z.symm (s2.extBut _ _ D.i1z.symm z1)
  have tp : IsPair (q3.push { cls := .type "tuple", data := .seq #[x, y] }) q3.objs.size x y := Heap.get?_push_size _ rfl
  rw [hsz] at tp ⊢
  exact hQ _ (Heap.get?_push_of_some _ z3) (a2.to fun o e => Heap.get?_push_of_some _ (s3.extBut _ _ D.i12 e)) (a3.to fun o e => Heap.get?_push_of_some _ e) tp (by rw [Heap.size_push, hsz]) fun c o c1 c2 c3 e => Heap.get?_push_of_some _ (k3 c o c1 c2 c3 e)
theorem zipA_end {t1 t2 : Bool} {z TI TO T0 i1 i2 l1 l2 : Addr} {f1 : Bool} {o0 : Obj} {k1 k2 : Nat} {xs ys : Array Value} {Q : Fin → Shared → Prop} (hh : A.handled = none) (D : ZipApart z TI TO i1 i2 l1 l2)
    (hz : IsZipA s.heap z TI TO T0 f1) (h0 : s.heap.get? T0 = some o0) (hTI : IsPair s.heap TI (.ref i1) (.ref i2))
    (h1 : SIter t1 s.heap i1 l1 k1) (hl1 : SSeq t1 s.heap l1 xs) (hend : xs[k1]? = none)
    (hE : ∀ h' e, (∀ c o, c ≠ z → c ≠ i1 → s.heap.get? c = some o → h'.get? c = some o) → (∃ o, h'.get? e = some o ∧ o.cls = .type "StopIteration") → E (.ref e) { s with heap := h' }) :
    wpAny (model prog w) A (Builtin.«zip.__next__» ⟨[.ref z], []⟩) Q E s := by
  show wpAny _ _ (field (.ref z) 2 >>= _) _ _ _; refine wpAny_bind (wpAny_field hz rfl (x := .bool false) rfl ?_)
  show wpAny _ _ (field (.ref z) 3 >>= _) _ _ _; refine wpAny_bind (wpAny_field hz rfl (x := .ref TI) rfl ?_); refine wpAny_bind (wpAny_seqItems hTI rfl ?_)
  show wpAny _ _ (Builtin.SmallTypes.ownedTupleIsFree (.ref z) >>= _) _ _ _; refine wpAny_bind (owned_out hz h0 fun q1 z1 s1 => ?_)
  simp only [Bool.false_eq_true, if_false]
  refine wpAny_bind ?_
  rw [List.forIn_toArray]
  simp only [List.forIn_cons, List.forIn_nil]
  refine wpAny_bind (wpAny_bind (wpAny_holding ?_))
  show wpAny _ _ (Builtin.SmallTypes.nextOf (.ref i1) >>= _) _ _ _
  exact wpAny_bind (nextOf_sE hh (h1.to fun o e => s1.extBut _ _ D.i1z e) (hl1.to fun o e => s1.extBut _ _ D.l1z e) hend fun q2 e s2 he => hE q2 e (fun c o c1 c2 x => s2 _ _ c2 (s1.extBut _ _ c1 x)) he)
theorem pyNext_zipA {t1 t2 : Bool} {z TI TO T0 i1 i2 l1 l2 : Addr} {f1 : Bool} {o0 : Obj} {k1 k2 : Nat} {xs ys : Array Value} {x y : Value} {Q : Option Value → Shared → Prop} (D : ZipApart z TI TO i1 i2 l1 l2)
    (hz : IsZipA s.heap z TI TO T0 f1) (h0 : s.heap.get? T0 = some o0) (hTI : IsPair s.heap TI (.ref i1) (.ref i2))
    (h1 : SIter t1 s.heap i1 l1 k1) (h2 : SIter t2 s.heap i2 l2 k2) (hl1 : SSeq t1 s.heap l1 xs) (hl2 : SSeq t2 s.heap l2 ys) (hx : xs[k1]? = some x) (hy : ys[k2]? = some y)
    (hQ : ∀ h', IsZipA h' z TI TO T0 true → SIter t1 h' i1 l1 (k1 + 1) → SIter t2 h' i2 l2 (k2 + 1) → IsPair h' s.heap.objs.size x y → h'.objs.size = s.heap.objs.size + 1 →
      (∀ c o, c ≠ z → c ≠ i1 → c ≠ i2 → s.heap.get? c = some o → h'.get? c = some o) → Q (some (.ref s.heap.objs.size)) { s with heap := h' }) :
    wpAny (model prog w) A (pyNext (.ref z)) Q E s := by
  have hT : s.TypeIs (.ref z) "zip" := ⟨_, hz, rfl⟩
  unfold pyNext
  exact wpAny_bind (wpAny_attempt (wpAny_callSpecial?_slot (name := Str.ofString "__next__") hT F.slot_zip_next (wpAny_call_entry F.slot_zip_next hT F.entry_zip_next (zipA_item D hz h0 hTI h1 h2 hl1 hl2 hx hy fun h' a1 a3 a4 a5 a6 a7 => wpAny_pure (hQ h' a1 a3 a4 a5 a6 a7)) (F.args_zip_next_1 _))))
theorem pyNext_zipAE {t1 : Bool} {z TI TO T0 i1 i2 l1 l2 : Addr} {f1 : Bool} {o0 : Obj} {k1 : Nat} {xs : Array Value} {Q : Option Value → Shared → Prop} (hh : A.handled = none) (D : ZipApart z TI TO i1 i2 l1 l2)
    (hz : IsZipA s.heap z TI TO T0 f1) (h0 : s.heap.get? T0 = some o0) (hTI : IsPair s.heap TI (.ref i1) (.ref i2)) (h1 : SIter t1 s.heap i1 l1 k1) (hl1 : SSeq t1 s.heap l1 xs) (hend : xs[k1]? = none)
    (hQ : ∀ h', (∀ c o, c ≠ z → c ≠ i1 → s.heap.get? c = some o → h'.get? c = some o) → Q none { s with heap := h' }) : wpAny (model prog w) A (pyNext (.ref z)) Q E s := by
  have hT : s.TypeIs (.ref z) "zip" := ⟨_, hz, rfl⟩
  unfold pyNext
  refine wpAny_bind (wpAny_attempt (wpAny_callSpecial?_slot (name := Str.ofString "__next__") hT F.slot_zip_next (wpAny_call_entry F.slot_zip_next hT F.entry_zip_next (zipA_end (t1 := t1) (t2 := false) (k1 := k1) (k2 := 0) (xs := xs) (ys := xs) hh D hz h0 hTI h1 hl1 hend fun h' e hk he => ?_) (F.args_zip_next_1 _))))
  obtain ⟨o, ho, hc⟩ := he
  exact wpAny_bind (wpAny_isInstance (T := "StopIteration") (b := true) ⟨o, ho, hc⟩ isSubtype_stop (wpAny_pure (hQ _ hk)))
end
def ZDrawn (N : Nat) (xs ys acc : Array Value) (h : Heap) (i : Nat) : Prop := acc.size = i ∧ ∀ j, j < i → ∃ T x y, acc[j]? = some (.ref T) ∧ xs[j]? = some x ∧ ys[j]? = some y ∧ IsPair h T x y ∧ N ≤ T
theorem ZDrawn.keep {N : Nat} {xs ys acc : Array Value} {h h' : Heap} {i : Nat} (d : ZDrawn N xs ys acc h i) (k : ∀ b o, N ≤ b → o.cls = .type "tuple" → h.get? b = some o → h'.get? b = some o) : ZDrawn N xs ys acc h' i :=
  ⟨d.1, fun j hj => by obtain ⟨T, x, y, a, b, c, e, n⟩ := d.2 j hj; exact ⟨T, x, y, a, b, c, k T _ n rfl e, n⟩⟩
theorem ZDrawn.push {N T : Nat} {xs ys acc : Array Value} {h : Heap} {i : Nat} {x y : Value} (d : ZDrawn N xs ys acc h i) (hx : xs[i]? = some x) (hy : ys[i]? = some y) (hT : IsPair h T x y) (n : N ≤ T) : ZDrawn N xs ys (acc.push (.ref T)) h (i + 1) := by
  refine ⟨by rw [Array.size_push, d.1], fun j hj => ?_⟩
  by_cases e : j = i
  · subst e
    exact ⟨T, x, y, by rw [Array.getElem?_push, if_pos d.1.symm], hx, hy, hT, n⟩
  · obtain ⟨T', x', y', a, b, c, f, m⟩ := d.2 j (by omega)
    exact ⟨T', x', y', by rw [Array.getElem?_push, if_neg (by rw [d.1]; exact e)]; exact a, b, c, f, m⟩
section
variable {prog : Program} {w : World} {A : Around} {R : Result → Shared → Prop}
theorem extend_zipA {t1 t2 : Bool} {z TI TO T0 i1 i2 l1 l2 S : Addr} {xs ys : Array Value} {x0 y0 : Value} {N n : Nat} (hh : A.in1.handled = none) (D : ZipApart z TI TO i1 i2 l1 l2) (hSz : S ≠ z) (hS1 : S ≠ i1) (hS2 : S ≠ i2) (hSTI : S ≠ TI) (hSl1 : S ≠ l1) (hSl2 : S ≠ l2) (hT0 : T0 ≠ S)
    (hxn : xs.size = n) (hyn : ys.size = n) (hn : n ≤ sizeLine) (res : Value) :
    ∀ (k i : Nat) (s : Shared) (acc : Array Value) (c : Nat) (f1 : Bool), n - i = k → i ≤ n → N ≤ s.heap.objs.size → IsZipA s.heap z TI TO T0 f1 → IsPair s.heap T0 x0 y0 → IsPair s.heap TI (.ref i1) (.ref i2) → SIter t1 s.heap i1 l1 i → SIter t2 s.heap i2 l2 i → SSeq t1 s.heap l1 xs → SSeq t2 s.heap l2 ys →
    s.heap.get? S = some { cls := .type "list", dict := none, data := .seq acc c, slots := #[] } → ZDrawn N xs ys acc s.heap i →
    (∀ h' acc' c', (∀ b o, b ≠ z → b ≠ i1 → b ≠ i2 → b ≠ S → s.heap.get? b = some o → h'.get? b = some o) → h'.get? S = some { cls := .type "list", dict := none, data := .seq acc' c', slots := #[] } → ZDrawn N xs ys acc' h' n → R (.ok (.ret res)) { s with heap := h' }) →
    codeAny (model prog w) A (.builtin "list.extend.loop" ⟨[.ref S, .ref z, res], []⟩) R s := by
  intro k
  induction k with
  | zero =>
    intro i s acc c f1 hk hi hN hz h0 hTI h1 h2 hl1 hl2 hS hd hR
    have hin : i = n := by omega
    subst hin
    refine codeAny_builtin F.entry_extend_loop ?_
    rw [Around.under_plainId F.plain_extend_loop _]
    show wpAny _ A.in1 (pyNext (.ref z) >>= _) _ _ s
    refine wpAny_bind (pyNext_zipAE hh D hz h0 hTI h1 hl1 (by rw [Array.getElem?_eq_none (by omega)]) fun h' hk' => ?_)
    refine wpAny_pure (hR h' acc c (fun b o b1 b2 _ _ e => hk' b o b1 b2 e) (hk' S _ hSz hS1 hS) (hd.keep fun b o _ hc e => hk' b o ?_ ?_ e))
    · intro q; subst q; rw [hz] at e; cases e; simp at hc
    · intro q; subst q; obtain ⟨o', e', _⟩ := h1.obj; rw [e] at e'; cases e'; exact (by cases t1 <;> (obtain ⟨o2, e2, c2, _⟩ := h1; rw [e] at e2; cases e2; rw [c2] at hc; simp at hc))
  | succ k ih =>
    intro i s acc c f1 hk hi hN hz h0 hTI h1 h2 hl1 hl2 hS hd hR
    have hlt : i < n := by omega
    refine codeAny_builtin F.entry_extend_loop ?_
    rw [Around.under_plainId F.plain_extend_loop _]
    show wpAny _ A.in1 (pyNext (.ref z) >>= _) _ _ s
    refine wpAny_bind (pyNext_zipA D hz h0 hTI h1 h2 hl1 hl2 (x := xs[i]'(by omega)) (y := ys[i]'(by omega)) (Array.getElem?_eq_getElem _) (Array.getElem?_eq_getElem _) fun h' a1 a2 a3 a4 a5 hk' => ?_)
    have hS' := hk' S _ hSz hS1 hS2 hS
    have nz : ∀ b o, o.cls = .type "tuple" → s.heap.get? b = some o → b ≠ z ∧ b ≠ i1 ∧ b ≠ i2 := fun b o hc e => by
      refine ⟨?_, ?_, ?_⟩
      · intro q; subst q; rw [hz] at e; cases e; simp at hc
      · intro q; subst q; cases t1 <;> (obtain ⟨o2, e2, c2, _⟩ := h1; rw [e] at e2; cases e2; rw [c2] at hc; simp at hc)
      · intro q; subst q; cases t2 <;> (obtain ⟨o2, e2, c2, _⟩ := h2; rw [e] at e2; cases e2; rw [c2] at hc; simp at hc)
    show wpAny _ A.in1 (updateSeq S (·.push (.ref s.heap.objs.size)) >>= _) _ _ _
    refine wpAny_bind ?_
    have oth : ∀ b o, b ≠ S → h'.get? b = some o → (h'.update S (Obj.mapSeq (·.push (.ref s.heap.objs.size)))).get? b = some o := fun b o hb e => (Heap.get?_update_other _ _ (Ne.symm hb)).trans e
    have ltS : s.heap.objs.size ≠ S := Nat.ne_of_gt (Heap.lt_size hS)
    have d1 : ZDrawn N xs ys acc h' i := hd.keep fun b o _ hc e => by obtain ⟨n1, n2, n3⟩ := nz b o hc e; exact hk' b o n1 n2 n3 e
    have d2 : ZDrawn N xs ys (acc.push (.ref s.heap.objs.size)) h' (i + 1) := d1.push (Array.getElem?_eq_getElem (by omega)) (Array.getElem?_eq_getElem (by omega)) a4 hN
    refine wpAny_updateSeq hS' rfl (wpAny_pure ⟨plainId_quiet F.plain_extend_loop _, ih (i + 1) _ (acc.push (.ref s.heap.objs.size)) _ true (by omega) hlt ?_ ?_ ?_ ?_ ?_ ?_ ?_ ?_ (Heap.get?_update_self _ hS' rfl) ?_ fun h'' acc' c' hk'' hS'' hd'' => ?_⟩)
      (by rw [hd.1]; omega) (by show (acc.push _).size ≤ sizeLine + 1; rw [Array.size_push, hd.1]; omega)
    · show N ≤ (h'.update S _).objs.size
      rw [(Heap.SameBut.update ..).1, a5]; omega
    · exact oth _ _ (Ne.symm hSz) a1
    · exact oth _ _ hT0 (by obtain ⟨n1, n2, n3⟩ := nz T0 _ rfl h0; exact hk' T0 _ n1 n2 n3 h0)
    · exact oth _ _ (Ne.symm hSTI) (hk' TI _ D.TIz D.TIi1 D.TIi2 hTI)
    · exact a2.to fun o e => oth _ o (Ne.symm hS1) e
    · exact a3.to fun o e => oth _ o (Ne.symm hS2) e
    · exact hl1.to fun o e => oth _ o (Ne.symm hSl1) (hk' _ _ D.l1z D.l1i1 D.l1i2 e)
    · exact hl2.to fun o e => oth _ o (Ne.symm hSl2) (hk' _ _ D.l2z D.l2i1 D.l2i2 e)
    · exact d2.keep fun b o _ hc e => oth b o (fun q => by subst q; rw [hS'] at e; cases e; simp at hc) e
    · exact hR h'' acc' c' (fun b o b1 b2 b3 b4 e => hk'' b o b1 b2 b3 b4 (oth b o b4 (hk' b o b1 b2 b3 e))) hS'' hd''
end
theorem zip_no_len : typeLookup (.type "zip") "__len__" = pure none := by rw [typeLookup_type, builtinLookup_eq_fast]; kernel_rfl
theorem zip_no_hint : typeLookup (.type "zip") "__length_hint__" = pure none := by rw [typeLookup_type, builtinLookup_eq_fast]; kernel_rfl
section
variable {prog : Program} {w : World} {A : Around} {R : Result → Shared → Prop}
theorem extend_zip0 {t1 t2 : Bool} {z TI TO i1 i2 l1 l2 S : Addr} {xs ys : Array Value} {u v : Value} {N n : Nat} (hh : A.in1.handled = none) (D : ZipApart z TI TO i1 i2 l1 l2) (hSz : S ≠ z) (hS1 : S ≠ i1) (hS2 : S ≠ i2) (hSTI : S ≠ TI) (hSTO : S ≠ TO) (hSl1 : S ≠ l1) (hSl2 : S ≠ l2)
    (hxn : xs.size = n) (hyn : ys.size = n) (hn : n ≤ sizeLine) (res : Value) {s : Shared} {c : Nat} (hN : N ≤ s.heap.objs.size) (hz : IsZip s.heap z TI TO .none) (hTI : IsPair s.heap TI (.ref i1) (.ref i2)) (hTO : IsPair s.heap TO u v) (h1 : SIter t1 s.heap i1 l1 0) (h2 : SIter t2 s.heap i2 l2 0) (hl1 : SSeq t1 s.heap l1 xs) (hl2 : SSeq t2 s.heap l2 ys)
    (hS : s.heap.get? S = some { cls := .type "list", dict := none, data := .seq #[] c, slots := #[] })
    (hR : ∀ h' acc' c', (∀ b o, b ≠ z → b ≠ TO → b ≠ i1 → b ≠ i2 → b ≠ S → s.heap.get? b = some o → h'.get? b = some o) → h'.get? S = some { cls := .type "list", dict := none, data := .seq acc' c', slots := #[] } → ZDrawn N xs ys acc' h' n → R (.ok (.ret res)) { s with heap := h' }) :
    codeAny (model prog w) A (.builtin "list.extend.loop" ⟨[.ref S, .ref z, res], []⟩) R s := by
  have d0 : ZDrawn N xs ys #[] s.heap 0 := ⟨rfl, fun j hj => absurd hj (Nat.not_lt_zero _)⟩
  refine codeAny_builtin F.entry_extend_loop ?_
  rw [Around.under_plainId F.plain_extend_loop _]
  show wpAny _ A.in1 (pyNext (.ref z) >>= _) _ _ s
  cases n with
  | zero =>
    refine wpAny_bind (pyNext_zipSE hh D hz hTI hTO h1 h2 hl1 hl2 (.inl (by rw [Array.getElem?_eq_none (by omega)])) fun h' hk' => ?_)
    exact wpAny_pure (hR h' #[] c (fun b o b1 b2 b3 b4 _ e => hk' b o b1 b2 b3 b4 e) (hk' S _ hSz hSTO hS1 hS2 hS) ⟨rfl, fun j hj => absurd hj (Nat.not_lt_zero _)⟩)
  | succ n =>
    refine wpAny_bind (pyNext_zipS D hz hTI hTO h1 h2 hl1 hl2 (x := xs[0]'(by omega)) (y := ys[0]'(by omega)) (Array.getElem?_eq_getElem _) (Array.getElem?_eq_getElem _) fun h' a1 aTO a2 a3 a4 a5 hk' => ?_)
    have hS' := hk' S _ hSz hSTO hS1 hS2 hS
    show wpAny _ A.in1 (updateSeq S (·.push (.ref s.heap.objs.size)) >>= _) _ _ _
    refine wpAny_bind ?_
    have oth : ∀ b o, b ≠ S → h'.get? b = some o → (h'.update S (Obj.mapSeq (·.push (.ref s.heap.objs.size)))).get? b = some o := fun b o hb e => (Heap.get?_update_other _ _ (Ne.symm hb)).trans e
    have ltS : s.heap.objs.size ≠ S := Nat.ne_of_gt (Heap.lt_size hS)
    have dd : ZDrawn N xs ys #[] h' 0 := ⟨rfl, fun j hj => absurd hj (Nat.not_lt_zero _)⟩
    have d2 : ZDrawn N xs ys ((#[] : Array Value).push (.ref s.heap.objs.size)) h' (0 + 1) := dd.push (Array.getElem?_eq_getElem (by omega)) (Array.getElem?_eq_getElem (by omega)) a4 hN
    refine wpAny_updateSeq hS' rfl (wpAny_pure ⟨plainId_quiet F.plain_extend_loop _, extend_zipA (t1 := t1) (t2 := t2) (T0 := s.heap.objs.size) (x0 := xs[0]'(by omega)) (y0 := ys[0]'(by omega)) (n := n + 1) (N := N) hh D hSz hS1 hS2 hSTI hSl1 hSl2 ltS hxn hyn hn res n 1 _ ((#[] : Array Value).push (.ref s.heap.objs.size)) _ false (by omega) (by omega) ?_ ?_ ?_ ?_ ?_ ?_ ?_ ?_ (Heap.get?_update_self _ hS' rfl) ?_ fun h'' acc' c' hk'' hS'' hd'' => ?_⟩)
      (by simp) (by show ((#[] : Array Value).push _).size ≤ sizeLine + 1; simp)
    · show N ≤ (h'.update S _).objs.size
      rw [(Heap.SameBut.update ..).1, a5]; omega
    · exact oth _ _ (Ne.symm hSz) a1
    · exact oth _ _ ltS a4
    · exact oth _ _ (Ne.symm hSTI) (hk' TI _ D.TIz D.TITO D.TIi1 D.TIi2 hTI)
    · exact a2.to fun o e => oth _ o (Ne.symm hS1) e
    · exact a3.to fun o e => oth _ o (Ne.symm hS2) e
    · exact hl1.to fun o e => oth _ o (Ne.symm hSl1) (hk' _ _ D.l1z D.l1TO D.l1i1 D.l1i2 e)
    · exact hl2.to fun o e => oth _ o (Ne.symm hSl2) (hk' _ _ D.l2z D.l2TO D.l2i1 D.l2i2 e)
    · exact d2.keep fun b o _ hc e => oth b o (fun q => by subst q; rw [hS'] at e; cases e; simp at hc) e
    · exact hR h'' acc' c' (fun b o b1 b2 b3 b4 b5 e => hk'' b o b1 b3 b4 b5 (oth b o b5 (hk' b o b1 b2 b3 b4 e))) hS'' hd''
end
section
variable {prog : Program} {w : World} {A : Around} {E : Value → Shared → Prop} {s : Shared}
theorem call_list_zip {t1 t2 : Bool} {z TI TO i1 i2 l1 l2 : Addr} {xs ys : Array Value} {u v : Value} {N n : Nat} {Q : Value → Shared → Prop} (hh : A.handled = none) (D : ZipApart z TI TO i1 i2 l1 l2)
    (hxn : xs.size = n) (hyn : ys.size = n) (hn : n ≤ sizeLine) (hN : N ≤ s.heap.objs.size) (hz : IsZip s.heap z TI TO .none) (hTI : IsPair s.heap TI (.ref i1) (.ref i2)) (hTO : IsPair s.heap TO u v) (h1 : SIter t1 s.heap i1 l1 0) (h2 : SIter t2 s.heap i2 l2 0) (hl1 : SSeq t1 s.heap l1 xs) (hl2 : SSeq t2 s.heap l2 ys)
    (hQ : ∀ h' acc' c', (∀ b o, b ≠ z → b ≠ TO → b ≠ i1 → b ≠ i2 → s.heap.get? b = some o → h'.get? b = some o) → h'.get? s.heap.objs.size = some { cls := .type "list", dict := none, data := .seq acc' c', slots := #[] } → ZDrawn N xs ys acc' h' n → Q (.ref s.heap.objs.size) { s with heap := h' }) :
    wpAny (model prog w) A (call (.type "list") [.ref z]) Q E s := by
  have lt : ∀ {b : Addr} {o : Obj}, s.heap.get? b = some o → s.heap.objs.size ≠ b := fun e => Nat.ne_of_gt (Heap.lt_size e)
  obtain ⟨o1, e1, _⟩ := h1.obj
  obtain ⟨o2, e2, _⟩ := h2.obj
  have ltl1 : s.heap.objs.size ≠ l1 := by cases t1 <;> (obtain ⟨_, e, _⟩ := hl1; exact lt e)
  have ltl2 : s.heap.objs.size ≠ l2 := by cases t2 <;> (obtain ⟨_, e, _⟩ := hl2; exact lt e)
  refine callType_codes (Q₁ := fun obj s₁ => obj = .ref s.heap.objs.size ∧ s₁ = { s with heap := s.heap.push { cls := .type "list", data := .seq #[] } }) F.called_list (F.typeCall_list_1 _) F.entry_list_init
    (code_list_new _ ⟨rfl, rfl⟩) fun obj s₁ h₁ => ?_
  obtain ⟨rfl, rfl⟩ := h₁
  have hS : (s.heap.push { cls := .type "list", data := .seq #[] }).get? s.heap.objs.size = some { cls := .type "list", data := .seq #[] } := Heap.get?_push_size _ rfl
  refine ⟨⟨_, hS, rfl⟩, F.args_list_init_2 _ _, ?_⟩
  show wpAny _ _ (do let old ← Builtin.List.listItems (.ref s.heap.objs.size); Builtin.List.listUpdate (.ref s.heap.objs.size) (fun _ => #[]); letGo old.toList.reverse; Builtin.List.listExtendWith (.ref s.heap.objs.size) (.ref z) .none) _ _ _
  refine wpAny_bind ?_
  unfold Builtin.List.listItems
  refine wpAny_bind (wpAny_seqItems hS rfl (wpAny_pure ?_))
  show wpAny _ _ (updateSeq s.heap.objs.size (fun _ => #[]) >>= fun _ => letGo (#[] : Array Value).toList.reverse >>= fun _ => Builtin.List.listExtendWith (.ref s.heap.objs.size) (.ref z) .none) _ _ _
  refine wpAny_bind (wpAny_updateSeq hS rfl ?_)
  have hS₂ := Heap.get?_update_self (Obj.mapSeq (fun _ => (#[] : Array Value))) hS rfl
  refine wpAny_bind (wpAny_letGo ?_)
  have k1 : ∀ b o, s.heap.objs.size ≠ b → s.heap.get? b = some o → ((s.heap.push { cls := .type "list", data := .seq #[] }).update s.heap.objs.size (Obj.mapSeq (fun _ => (#[] : Array Value)))).get? b = some o := fun b o hb e => (Heap.get?_update_other _ _ hb).trans (Heap.get?_push_of_some _ e)
  have sz1 : s.heap.objs.size ≤ ((s.heap.push { cls := .type "list", data := .seq #[] }).update s.heap.objs.size (Obj.mapSeq (fun _ => (#[] : Array Value)))).objs.size := by rw [(Heap.SameBut.update ..).1, Heap.size_push]; omega
  generalize hg : (s.heap.push { cls := .type "list", data := .seq #[] }).update s.heap.objs.size (Obj.mapSeq (fun _ => (#[] : Array Value))) = g1 at hS₂ k1 sz1 ⊢
  have hzT : Shared.TypeIs { s with heap := g1 } (.ref z) "zip" := ⟨_, k1 _ _ (lt hz) hz, rfl⟩
  unfold Builtin.List.listExtendWith
  refine wpAny_bind (wpAny_typeOf hzT ?_)
  have q1 : Builtin.List.listSameRef (.ref s.heap.objs.size) (.ref z) = false := by simp [Builtin.List.listSameRef, lt hz]
  have q2 : (Value.type "zip" == Value.type "list") = false := by decide
  have q3 : (Value.type "zip" == Value.type "tuple") = false := by decide
  simp only [q1, q2, q3, Bool.or_false, Bool.false_eq_true, if_false]
  refine wpAny_bind (wpAny_pyIter_zip (k1 _ _ (lt hz) hz) ?_)
  refine wpAny_bind (wpAny_holding ?_)
  unfold Builtin.List.listLengthHint
  refine wpAny_bind (wpAny_specialOf hzT zip_no_len ?_)
  show wpAny _ _ (specialOf (Value.ref z) (Str.ofString "__length_hint__") >>= _) _ _ _
  refine wpAny_bind (wpAny_specialOf hzT zip_no_hint ?_)
  refine wpAny_pure ?_
  show wpAny _ _ (rule "list.extend.makes-room" >>= fun _ => Builtin.List.listTouch (.ref s.heap.objs.size) >>= fun _ =>
    again (.builtin "list.extend.loop" ⟨[.ref s.heap.objs.size, .ref z, .none], []⟩)) _ _ _
  refine wpAny_bind (wpAny_rule ?_)
  refine wpAny_bind ?_
  show wpAny _ _ (updateSeq s.heap.objs.size (·.push .none) >>= fun _ => updateSeq s.heap.objs.size (·.pop)) _ _ _
  refine wpAny_bind (wpAny_updateSeq hS₂ rfl ?_)
  have hS₃ := Heap.get?_update_self (Obj.mapSeq (·.push Value.none)) hS₂ rfl
  refine wpAny_updateSeq (hz := by seq_fits) hS₃ rfl ?_
  have hS₄ := Heap.get?_update_self (Obj.mapSeq (·.pop)) hS₃ rfl
  have k2 : ∀ b o, s.heap.objs.size ≠ b → s.heap.get? b = some o → ((g1.update s.heap.objs.size (Obj.mapSeq (·.push Value.none))).update s.heap.objs.size (Obj.mapSeq (·.pop))).get? b = some o := fun b o hb e => (Heap.get?_update_other _ _ hb).trans ((Heap.get?_update_other _ _ hb).trans (k1 b o hb e))
  have sz2 : s.heap.objs.size ≤ ((g1.update s.heap.objs.size (Obj.mapSeq (·.push Value.none))).update s.heap.objs.size (Obj.mapSeq (·.pop))).objs.size := by rw [(Heap.SameBut.update ..).1, (Heap.SameBut.update ..).1]; exact sz1
  generalize hg2 : (g1.update s.heap.objs.size (Obj.mapSeq (·.push Value.none))).update s.heap.objs.size (Obj.mapSeq (·.pop)) = g2 at hS₄ k2 sz2 ⊢
  refine wpAny_pure ⟨plainId_quiet F.plain_extend_loop _, extend_zip0 (A := A.in1) (t1 := t1) (t2 := t2) (N := N) (n := n) hh D (lt hz) (lt e1) (lt e2) (lt hTI) (lt hTO) ltl1 ltl2 hxn hyn hn .none (Nat.le_trans hN sz2) (k2 _ _ (lt hz) hz) (k2 _ _ (lt hTI) hTI) (k2 _ _ (lt hTO) hTO) (h1.to fun o e => k2 _ o (lt e) e) (h2.to fun o e => k2 _ o (lt e) e) (hl1.to fun o e => k2 _ o (lt e) e) (hl2.to fun o e => k2 _ o (lt e) e) hS₄ fun h' acc' c' hk hS' hd => ?_⟩
  exact ⟨rfl, hQ h' acc' c' (fun b o b1 b2 b3 b4 e => hk b o b1 b2 b3 b4 (fun q => lt e q.symm) (k2 b o (lt e) e)) hS' hd⟩
end
theorem Inv.grown {X : Cx} {pins : List (Addr × Obj)} {σ : St} {H Hn : Hp} {s : Shared} {h' : Heap} {t' : Nat} (I : Inv X pins σ H s) (k : ∀ b o, s.heap.get? b = some o → h'.get? b = some o)
    (old : ∀ b u, H b = some u → Hn b = some u) (young : ∀ b, b < s.heap.objs.size → H b = none → Hn b = none) (new : ∀ b u, H b = none → Hn b = some u → ObjOk X.prog X.w Hn h' b u) : Inv X pins σ Hn { s with heap := h', toks := t' } := by
  have fr : ∀ b o, s.heap.get? b = some o → H b = none → Hn b = none := fun b o e n => young b (Heap.lt_size e) n
  refine I.step (g' := s.gens) (d' := s.drawn) (ch := []) (fun b hb => (nomatch hb)) (fun b o _ _ _ e _ => k b o e) (fun b o _ _ _ e _ => ⟨o.slots, k b o e⟩)
    (fun b o _ e n => fr b o e n) (fun b o _ e => ⟨o, k b o e⟩) (fun b ys q => old b _ q) (fun b o u q => old b _ q)
    (fun b ps q => ⟨#[], by rw [old b _ q]; simp⟩) (fun m hm => ?_) (fun b u q => ?_) I.bare
  · obtain ⟨o, es, ep, ho, rr⟩ := hm
    exact ⟨o, es, ep, k _ o ho, rr⟩
  · cases hb : H b with
    | some u' =>
      have e := old b u' hb
      rw [q] at e
      cases e
      exact (I.hok b u hb).stay (fun c v hc z => k c v z) (fun c z => old c _ z) fun c ys z => old c _ z
    | none => exact new b u hb q
def tListZip (t1 t2 : Bool) (K : PySem.W.Frag) (ta : TA) : TE := fun σ H Q => ta σ H fun vs H1 => ∃ (a b : Addr) (xs ys : List V), vs = [.ref a, .ref b] ∧ Sq t1 K H1 a xs ∧ Sq t2 K H1 b ys ∧ xs.length = ys.length ∧
  ∀ (l : Addr) (zs : List V) (H' : Hp), Same H1 H' → H1 l = none → H' l = some (.lst zs) → zs.length = xs.length → (∀ (j : Nat) (x y : V), xs[j]? = some x → ys[j]? = some y → ∃ T : Addr, zs[j]? = some (.ref T) ∧ H' T = some (.tup [x, y])) → Q (.ref l) H'
theorem Vals.of_get : ∀ {zs : List V} {us : List Value}, zs.length = us.length → (∀ (j : Nat) (z : V) (u : Value), zs[j]? = some z → us[j]? = some u → RelV z u) → Vals zs us
  | [], [], _, _ => .nil
  | z :: zs, u :: us, hl, h => .cons (h 0 z u rfl rfl) (Vals.of_get (by simpa using hl) fun j a b e1 e2 => h (j + 1) a b (by simpa using e1) (by simpa using e2))
  | [], _ :: _, hl, _ => by simp at hl
  | _ :: _, [], hl, _ => by simp at hl
theorem pe_listZip {X : Cx} {ea eb : Expr} {ta : TA} {p p1 pos pos1 : Pos} {t1 t2 : Bool} (hc : X.calm = true) (hg1 : Gl X "list") (hm1 : X.mg "list" = none) (hg : Gl X "zip") (hm : X.mg "zip" = none) (ha : PA X [ea, eb] ta) (hs : starEach [ea, eb] X.env = [(false, eval ea X.env), (false, eval eb X.env)] := by rfl) (hs2 : starEach [eb] X.env = [(false, eval eb X.env)] := by rfl)
    (hs3 : starEach [.Call (.Name "zip" p) [ea, eb] [] pos] X.env = [(false, eval (.Call (.Name "zip" p) [ea, eb] [] pos) X.env)] := by rfl) :
    PE X (.Call (.Name "list" p1) [.Call (.Name "zip" p) [ea, eb] [] pos] [] pos1) (tListZip t1 t2 X.K ta) := by
  intro pins s σ H Q I h
  refine Call_ (ld_blt I hg1 hm1 bt_list (PyProof.Rows.callWith_type1 ?_ hs3 rfl))
  rw [hs3]
  show wpAny _ _ (spliced [(false, eval (.Call (.Name "zip" p) [ea, eb] [] pos) X.env)]) _ _ s
  refine Calls.spliced_cons ?_
  refine Call_ (ld_blt I hg hm bt_zip (PyProof.Rows.callWith_type1 (thn (ha pos pins s σ H _ I h) fun us s1 ⟨vs, H1, I1, r1, q1⟩ => ?_) (by rw [hs, hs2]) (by rw [hs2]; rfl)))
  obtain ⟨a, b, xs, ys, e, w1, w2, hl, q⟩ := q1
  subst e
  obtain ⟨u, v, rfl, ru, rv⟩ := r1.two
  cases ru
  cases rv
  obtain ⟨its1, r1, p1, z1⟩ := I1.sseq w1
  obtain ⟨its2, r2, p2, z2⟩ := I1.sseq w2
  have n1 := r1.length
  have n2 := r2.length
  have lt1 : a < s1.heap.objs.size := by cases t1 <;> (obtain ⟨_, e, _⟩ := p1; exact Heap.lt_size e)
  have lt2 : b < s1.heap.objs.size := by cases t2 <;> (obtain ⟨_, e, _⟩ := p2; exact Heap.lt_size e)
  refine call_zipS p1 p2 fun h' hz hTI hTO hi1 hi2 hk => Calls.spliced_nil ?_
  have fp := zipApart_new lt1 lt2
  refine call_list_zip (t1 := t1) (t2 := t2) (N := s1.heap.objs.size) (n := xs.length) (xs := its1.toArray) (ys := its2.toArray) (I.ok.hd hc) fp (by simp; omega) (by simp; omega) z1 ?_ hz hTI hTO hi1 hi2 (p1.to fun o e => hk _ o e) (p2.to fun o e => hk _ o e) fun h'' acc c hk2 hS hd => ?_
  · exact Nat.le_of_lt (Nat.lt_of_le_of_lt (Nat.le_add_right _ 4) (Heap.lt_size hz))
  generalize hl0 : h'.objs.size = l at hS
  have hzlt := Heap.lt_size hz
  have hle : s1.heap.objs.size ≤ l := by rw [← hl0]; exact Nat.le_of_lt (Nat.lt_of_le_of_lt (Nat.le_add_right _ 4) (Heap.lt_size hz))
  have kk : ∀ c o, s1.heap.get? c = some o → h''.get? c = some o := fun c o e => hk2 c o (Nat.ne_of_lt (Nat.lt_of_lt_of_le (Heap.lt_size e) (Nat.le_add_right _ _))) (Nat.ne_of_lt (Nat.lt_of_lt_of_le (Heap.lt_size e) (Nat.le_add_right _ _))) (Nat.ne_of_lt (Heap.lt_size e)) (Nat.ne_of_lt (Nat.lt_of_lt_of_le (Heap.lt_size e) (Nat.le_add_right _ _))) (hk c o e)
  have hacc : acc.size = xs.length := hd.1
  have hfr : ∀ c, s1.heap.objs.size ≤ c → H1 c = none := fun c hc => I1.hok.fresh hc
  let zs : List V := acc.toList.map fun u => match u with | .ref T => V.ref T | _ => V.non
  have zsl : zs.length = xs.length := by show (acc.toList.map _).length = _; rw [List.length_map, Array.length_toList, hacc]
  have zsg : ∀ (j : Nat) (T : Addr), acc[j]? = some (.ref T) → zs[j]? = some (.ref T) := fun j T e => by
    show (acc.toList.map _)[j]? = _
    rw [List.getElem?_map, Array.getElem?_toList, e]
    rfl
  have vz : Vals zs acc.toList := by
    refine Vals.of_get (zsl.trans (hacc.symm.trans Array.length_toList.symm)) fun j z u e1 e2 => ?_
    rw [Array.getElem?_toList] at e2
    have hj : j < xs.length := by
      by_cases hj : j < acc.size
      · omega
      · rw [Array.getElem?_eq_none (by omega)] at e2; cases e2
    obtain ⟨T, _, _, e3, _⟩ := hd.2 j hj
    rw [zsg j T e3] at e1
    rw [e3] at e2
    cases e1
    cases e2
    rfl
  let Pp : Addr → V → V → Prop := fun c x y => s1.heap.objs.size ≤ c ∧ ∃ u v, IsPair h'' c u v ∧ RelV x u ∧ RelV y v
  have uni : ∀ c x y x' y', Pp c x y → Pp c x' y' → x = x' ∧ y = y' := by
    rintro c x y x' y' ⟨_, u, v, e, ru, rv⟩ ⟨_, u', v', e', ru', rv'⟩
    have e2 := (show h''.get? c = some _ from e).symm.trans (show h''.get? c = some _ from e')
    cases e2
    exact ⟨Option.some.inj (ru.abs.symm.trans ru'.abs), Option.some.inj (rv.abs.symm.trans rv'.abs)⟩
  have nl : ∀ x y, ¬ Pp l x y := by
    rintro x y ⟨_, u, v, e, _⟩
    have e' : h''.get? l = some { cls := .type "tuple", data := .seq #[u, v] } := e
    rw [hS] at e'
    have e2 := congrArg Obj.cls (Option.some.inj e')
    exact absurd (show (Value.type "list" : Value) = Value.type "tuple" from e2) (by decide)
  classical
  let Hn : Hp := fun c => if c = l then some (.lst zs) else if hx : ∃ x y, Pp c x y then some (.tup [hx.choose, hx.choose_spec.choose]) else H1 c
  have Hl : Hn l = some (.lst zs) := if_pos rfl
  have Hp' : ∀ c x y, Pp c x y → Hn c = some (.tup [x, y]) := fun c x y hp => by
    have hcl : c ≠ l := fun e => nl x y (e ▸ hp)
    have hx : ∃ x y, Pp c x y := ⟨x, y, hp⟩
    show (if c = l then _ else if hx : ∃ x y, Pp c x y then _ else _) = _
    rw [if_neg hcl, dif_pos hx]
    obtain ⟨e1, e2⟩ := uni c _ _ _ _ hx.choose_spec.choose_spec hp
    exact congrArg some (congrArg HO.tup (by rw [show [hx.choose, hx.choose_spec.choose] = [x, y] from List.cons_eq_cons.mpr ⟨e1, List.cons_eq_cons.mpr ⟨e2, rfl⟩⟩]))
  have Ho : ∀ c, c ≠ l → (∀ x y, ¬ Pp c x y) → Hn c = H1 c := fun c hcl hp => by
    show (if c = l then _ else if hx : ∃ x y, Pp c x y then _ else _) = _
    rw [if_neg hcl, dif_neg fun ⟨x, y, z⟩ => hp x y z]
  have low : ∀ c, c < s1.heap.objs.size → Hn c = H1 c := fun c hc => Ho c (Nat.ne_of_lt (Nat.lt_of_lt_of_le hc hle)) fun x y ⟨z, _⟩ => Nat.not_le_of_lt hc z
  have old : ∀ c u, H1 c = some u → Hn c = some u := fun c u e => by
    have : c < s1.heap.objs.size := by
      by_cases hc : c < s1.heap.objs.size
      · exact hc
      · rw [hfr c (Nat.le_of_not_lt hc)] at e; cases e
    rw [low c this]; exact e
  refine ⟨.ref l, Hn, I1.grown (t' := s1.toks) kk old (fun c hc e => by rw [low c hc]; exact e) (fun c u e1 e2 => ?_), rfl, q l zs Hn old (hfr l hle) Hl zsl fun j x y ex ey => ?_⟩
  · by_cases hcl : c = l
    · subst hcl
      rw [Hl] at e2
      cases e2
      exact ⟨by rw [zsl]; exact z1, acc.toList, _, vz, by rw [Array.toArray_toList]; exact hS⟩
    · by_cases hp : ∃ x y, Pp c x y
      · obtain ⟨x, y, hp⟩ := hp
        rw [Hp' c x y hp] at e2
        cases e2
        obtain ⟨_, u', v', e, ru, rv⟩ := hp
        exact ⟨by show 2 ≤ sizeLine; decide, [u', v'], .cons ru (.cons rv .nil), _, e, rfl, _, rfl⟩
      · rw [Ho c hcl fun x y z => hp ⟨x, y, z⟩, e1] at e2
        cases e2
  · have hj : j < xs.length := (List.getElem?_eq_some_iff.mp ex).1
    obtain ⟨T, u', v', e3, e4, e5, e6, e7⟩ := hd.2 j hj
    obtain ⟨u1, eu1, ru1⟩ := r1.get ex
    obtain ⟨v1, ev1, rv1⟩ := r2.get ey
    have e4' : its1[j]? = some u' := by simpa using e4
    have e5' : its2[j]? = some v' := by simpa using e5
    rw [eu1] at e4'
    rw [ev1] at e5'
    cases e4'
    cases e5'
    exact ⟨T, zsg j T e3, Hp' T x y ⟨e7, _, _, e6, ru1, rv1⟩⟩
end L2
namespace Lf
open PySem L2
mutual
theorem eqAt_data {X : Cx} {pins : List (Addr × Obj)} {σ : St} {H : Hp} {s : Shared} (I : Inv X pins σ H s) : ∀ (d : Dt) {v v' : V} {u u' : Value} {A : Around}, A.units + d.deep < cLine → IsD H d v → IsD H d v' → RelV v u → RelV v' u' → SeqAt.EqAt A s u u' true
  | .int i, v, v', u, u', A, _, h, h', r, r' => by
    cases (show v = .int i from h)
    cases (show v' = .int i from h')
    obtain ⟨t, rfl⟩ := r
    obtain ⟨t', rfl⟩ := r'
    have := SeqAt.EqAt.int_int (A := A) (s := s) i t i t'
    rw [beq_self_eq_true] at this
    exact this
  | .str x, v, v', u, u', A, _, h, h', r, r' => by
    cases (show v = .str x from h)
    cases (show v' = .str x from h')
    obtain ⟨t, rfl⟩ := r
    obtain ⟨t', rfl⟩ := r'
    have := SeqAt.EqAt.str_str (A := A) (s := s) x t x t'
    rw [beq_self_eq_true] at this
    exact this
  | .bl b, v, v', u, u', A, _, h, h', r, r' => by
    cases (show v = .bl b from h)
    cases (show v' = .bl b from h')
    cases r
    cases r'
    exact SeqAt.EqAt.same _
  | .tup ds, v, v', u, u', A, hA, h, h', r, r' => by
    obtain ⟨a, vs, rfl, ha, hv⟩ := h
    obtain ⟨b, ws, rfl, hb, hw⟩ := h'
    cases r
    cases r'
    by_cases hab : a = b
    · subst hab; exact SeqAt.EqAt.same _
    · obtain ⟨i1, r1, p1, z1⟩ := I.tuple (SqT.of (K := X.K) ha)
      obtain ⟨i2, r2, p2, z2⟩ := I.tuple (SqT.of (K := X.K) hb)
      have hd : A.units + (deepD ds + 1) < cLine := hA
      refine SeqAt.EqAt.of_refs hab ?_
      have q := SeqAt.RcAt.tuples (e := fun _ => true) p1 p2 (by omega) (eqAts_data I ds (A := A.in1) (by show A.units + 1 + deepD ds < cLine; omega) hv hw r1 r2)
      have n1 := r1.length
      have n2 := r2.length
      have l1 := hv.len
      have l2 := hw.len
      have e : ((List.range (min i1.toArray.size i2.toArray.size)).all (fun _ => true) && i1.toArray.size == i2.toArray.size) = true := by
        rw [Bool.and_eq_true]
        exact ⟨by simp, beq_iff_eq.mpr (by simp only [List.size_toArray]; omega)⟩
      rw [e] at q
      exact q
  | .lst ds, v, v', u, u', A, hA, h, h', r, r' => by
    obtain ⟨a, vs, rfl, ha, hv⟩ := h
    obtain ⟨b, ws, rfl, hb, hw⟩ := h'
    cases r
    cases r'
    by_cases hab : a = b
    · subst hab; exact SeqAt.EqAt.same _
    · obtain ⟨i1, r1, p1, z1⟩ := I.list (SqL.of (K := X.K) ha)
      obtain ⟨i2, r2, p2, z2⟩ := I.list (SqL.of (K := X.K) hb)
      have hd : A.units + (deepD ds + 1) < cLine := hA
      refine SeqAt.EqAt.of_refs hab ?_
      have n1 := r1.length
      have n2 := r2.length
      have l1 := hv.len
      have l2 := hw.len
      have q := SeqAt.RcAt.lists (e := fun _ => true) p1.isList p2.isList (by simp only [List.size_toArray]; omega) (by omega) (eqAts_data I ds (A := A.in1) (by show A.units + 1 + deepD ds < cLine; omega) hv hw r1 r2)
      have e : ((List.range i1.toArray.size).all (fun _ => true)) = true := by simp
      rw [e] at q
      exact q
theorem eqAts_data {X : Cx} {pins : List (Addr × Obj)} {σ : St} {H : Hp} {s : Shared} (I : Inv X pins σ H s) : ∀ (ds : List Dt) {vs ws : List V} {us us' : List Value} {A : Around}, A.units + deepD ds < cLine → IsDs H ds vs → IsDs H ds ws → Vals vs us → Vals ws us' →
    ∀ (j : Nat) (h1 : j < us.toArray.size) (h2 : j < us'.toArray.size), SeqAt.EqAt A s us.toArray[j] us'.toArray[j] true
  | [], _, _, us, _, _, _, h, h', r, r', j, h1, _ => by
    cases (show _ = [] from h)
    cases r
    simp at h1
  | d :: ds, _, _, us, us', A, hA, ⟨v, vr, e1, hv, hvs⟩, ⟨v', vr', e2, hw, hws⟩, r, r', j, h1, h2 => by
    subst e1
    subst e2
    cases r with
    | cons r1 r2 =>
    cases r' with
    | cons r1' r2' =>
    have hm : A.units + max d.deep (deepD ds) < cLine := hA
    cases j with
    | zero => exact eqAt_data I d (by omega) hv hw r1 r1'
    | succ j =>
      have := eqAts_data I ds (A := A) (by omega) hvs hws r2 r2' j (by simpa using h1) (by simpa using h2)
      simpa using this
end
def rSame (neg : Bool) : R2 := fun x y H Q => ∃ (d : Dt), d.deep ≤ 60 ∧ ((∃ ds, d = .lst ds) ∨ ∃ ds, d = .tup ds) ∧ IsD H d x ∧ IsD H d y ∧ Q (.bl neg) H
theorem op_neSame {X : Cx} (hu : X.A.units + 64 < cLine) : OpR X (compareOp .NotEq) (rSame false) := by
  intro pins s σ H x y v u Q I rx ry h
  obtain ⟨d, hd, hk, h1, h2, q⟩ := h
  cases d with
  | lst ds =>
    obtain ⟨a, vs, rfl, ha, hv⟩ := h1
    obtain ⟨b, ws, rfl, hb, hw⟩ := h2
    cases rx
    cases ry
    obtain ⟨i1, r1, p1, z1⟩ := I.list (SqL.of (K := X.K) ha)
    obtain ⟨i2, r2, p2, z2⟩ := I.list (SqL.of (K := X.K) hb)
    have n1 := r1.length
    have n2 := r2.length
    have l1 := hv.len
    have l2 := hw.len
    have hd' : deepD ds + 1 ≤ 60 := hd
    refine PySem.SeqAt.RcNeAt.lists (e := fun _ => true) p1.isList p2.isList (by simp only [List.size_toArray]; omega) (by omega) (eqAts_data I ds (A := X.A.in1) (by show X.A.units + 1 + deepD ds < cLine; omega) hv hw r1 r2) _ _ _ _ ?_
    refine ⟨.bl false, H, I, ?_, q⟩
    show Value.bool _ = Value.bool _
    have e : ((List.range i1.toArray.size).all (fun _ => true)) = true := by simp
    rw [e]
    rfl
  | tup ds =>
    obtain ⟨a, vs, rfl, ha, hv⟩ := h1
    obtain ⟨b, ws, rfl, hb, hw⟩ := h2
    cases rx
    cases ry
    obtain ⟨i1, r1, p1, z1⟩ := I.tuple (SqT.of (K := X.K) ha)
    obtain ⟨i2, r2, p2, z2⟩ := I.tuple (SqT.of (K := X.K) hb)
    have n1 := r1.length
    have n2 := r2.length
    have l1 := hv.len
    have l2 := hw.len
    have hd' : deepD ds + 1 ≤ 60 := hd
    refine PySem.SeqAt.RcNeAt.tuples (e := fun _ => true) p1 p2 (by omega) (eqAts_data I ds (A := X.A.in1) (by show X.A.units + 1 + deepD ds < cLine; omega) hv hw r1 r2) _ _ _ _ ?_
    refine ⟨.bl false, H, I, ?_, q⟩
    show Value.bool _ = Value.bool _
    have e : ((List.range (min i1.toArray.size i2.toArray.size)).all (fun _ => true) && i1.toArray.size == i2.toArray.size) = true := by
      rw [Bool.and_eq_true]
      exact ⟨by simp, beq_iff_eq.mpr (by simp only [List.size_toArray]; omega)⟩
    rw [e]
    rfl
  | int i => rcases hk with ⟨_, hk⟩ | ⟨_, hk⟩ <;> cases hk
  | str i => rcases hk with ⟨_, hk⟩ | ⟨_, hk⟩ <;> cases hk
  | bl i => rcases hk with ⟨_, hk⟩ | ⟨_, hk⟩ <;> cases hk
end Lf

set_option Elab.async false
set_option linter.all false
set_option maxRecDepth 100000
set_option maxHeartbeats 4000000
namespace L2
open PySem PySem.Spec PyProof.Rows
def rangeV (lo hi : Int) : List V := (List.range (hi - lo).toNat).map fun (k : Nat) => V.int (lo + (k : Int))
def tListRange (ta : TA) : TE := fun σ H Q => ta σ H fun vs H1 => ∃ lo hi : Int, vs = [.int lo, .int hi] ∧ 0 ≤ lo ∧ lo ≤ 1000000 ∧ 0 ≤ hi ∧ hi ≤ 1000000 ∧ ∀ l, H1 l = none → Q (.ref l) (upd H1 l (.lst (rangeV lo hi)))
end L2

set_option Elab.async false
set_option linter.all false
set_option maxRecDepth 100000
set_option maxHeartbeats 4000000
namespace L2
open PySem PySem.Spec PyProof.Rows
section
variable {prog : Program} {w : World} {A : Around} {E : Value → Shared → Prop} {s : Shared} {a₀ : Array Keyed}
end
section
variable {X : Cx}
theorem bt_sorted : bootBuiltins "sorted" = some (.builtin "sorted") := by decide +kernel
end
end L2

set_option Elab.async false
set_option linter.all false
set_option maxRecDepth 100000
set_option maxHeartbeats 4000000
namespace L2
open PySem PySem.Spec PyProof.Rows
section
variable {M : Model} {A : Around} {E : Value → Shared → Prop} {s : Shared}
end
def ownFn (scope : Scope) (x : Str) : Bool := scope.names.any fun y => y.1 == x && y.2 == .cell
def cxComp2 (X : Cx) (N' : List Str) (scope : Scope) (cl : List (Str × Addr)) (C : Addr) (s : Shared) (H : Hp) (ex : List Addr) : Cx := { cxComp X N' scope cl C s H ex with fn := ownFn scope }
structure CompScope2 (dsc scope : Scope) (N tgs : List Str) (outs : List Nat) (N' : List Str) : Prop where
  kind : scope.kind = .function
  names : ∀ x ∈ scope.names, x.2 = .local → scope.names.lookup x.1 = some .local
  sep : ∀ j ∈ outs, ∀ y ∈ scope.names, y.2 = .cell → y.1 ≠ N.getD j ""
  free : ∀ y ∈ scope.names, y.2 = .free → dsc.names.lookup y.1 = some .cell
  isN : N' = tgs ++ outs.map (fun j => N.getD j "")
  lts : ∀ j ∈ outs, j < N.length
  outF : ∀ j ∈ outs, scope.names.lookup (N.getD j "") = some .free
  nd : N'.Nodup
def cellAll (scope : Scope) : Scope := { scope with names := scope.names.map fun (n, k) => if k == .free then (n, .cell) else (n, k) }
section
variable {X : Cx} {pins : List (Addr × Obj)} {σ : St} {H2 : Hp} {s2 : Shared} {dsc scope : Scope} {tgs N' : List Str} {outs : List Nat} {cl : List (Str × Addr)} {fp : List Addr} {C D : Addr} {h1 : Heap} {tk : Nat} {mC : Str → Option Value}
end
section
variable {X : Cx} {tg elt iter : Expr} {ifs : List Expr} {dsc scope : Scope} {tgs N' : List Str} {outs : List Nat} {wi : TI} {g : TG} {tc : TT} {te : TE} {pos : Pos}
end
end L2

set_option Elab.async false
set_option linter.all false
set_option maxRecDepth 100000
set_option maxHeartbeats 4000000
namespace L2
open PySem PySem.Spec PyProof.Rows
section
variable {prog : Program} {w : World} {A : Around} {R : Result → Shared → Prop} {I : Addr} {fp wr : List Addr} {n : Nat} {P : Nat → Value → Prop} {St : Nat → Heap → Prop}
end
section
variable {X : Cx}
theorem lex_trans : ∀ {a b c : List Int}, HT.lexLt b a = false → HT.lexLt c b = false → HT.lexLt c a = false
  | [], [], [], _, _ => rfl
  | [], [], _ :: _, _, h => h
  | [], _ :: _, [], _, _ => rfl
  | [], _ :: _, _ :: _, h, _ => HT.lexLt_cons_nil _ _
  | _ :: _, [], _, h, _ => by rw [HT.lexLt_nil_cons] at h; cases h
  | _ :: _, _ :: _, [], _, h => by rw [HT.lexLt_nil_cons] at h; cases h
  | x :: xs, y :: ys, z :: zs, h1, h2 => by
    rw [HT.lexLt_cons] at h1 h2 ⊢
    by_cases c1 : y = x
    · rw [if_pos c1] at h1
      by_cases c2 : z = y
      · rw [if_pos c2] at h2
        rw [if_pos (c2.trans c1)]
        exact lex_trans h1 h2
      · rw [if_neg c2] at h2
        rw [if_neg (fun e => c2 (e.trans c1.symm)), ← c1]
        exact h2
    · rw [if_neg c1] at h1
      have h1 := of_decide_eq_false h1
      by_cases c2 : z = y
      · rw [if_neg (fun e => c1 (c2.symm.trans e)), c2]
        exact decide_eq_false h1
      · rw [if_neg c2] at h2
        have h2 := of_decide_eq_false h2
        rw [if_neg (by omega)]
        exact decide_eq_false (by omega)
theorem lex_asym : ∀ {a b : List Int}, HT.lexLt a b = true → HT.lexLt b a = false
  | [], [], h => by cases h
  | [], _ :: _, _ => HT.lexLt_cons_nil _ _
  | _ :: _, [], h => by rw [HT.lexLt_cons_nil] at h; cases h
  | x :: xs, y :: ys, h => by
    rw [HT.lexLt_cons] at h ⊢
    by_cases c : x = y
    · rw [if_pos c] at h
      rw [if_pos c.symm]
      exact lex_asym h
    · rw [if_neg c] at h
      have h := of_decide_eq_true h
      rw [if_neg (fun e => c e.symm)]
      exact decide_eq_false (by omega)
theorem refs_of : ∀ {ts : List (Addr × List Int)} {us : List Value}, Vals (ts.map fun t => V.ref t.1) us → us = ts.map fun t => Value.ref t.1
  | [], _, r => by cases r; rfl
  | t :: ts, _, r => by
    cases r with
    | cons h r =>
      rw [List.map_cons, ← refs_of r]
      cases h
      rfl
end
def tListRange1 (ta : TA) : TE := fun σ H Q => ta σ H fun vs H1 => ∃ hi : Int, vs = [.int hi] ∧ 0 ≤ hi ∧ hi ≤ 1000000 ∧ ∀ l, H1 l = none → Q (.ref l) (upd H1 l (.lst (rangeV 0 hi)))
theorem pe_listRange1 {X : Cx} {ea : Expr} {ta : TA} {p p1 pos pos1 : Pos} (hc : X.calm = true) (hg1 : Gl X "list") (hm1 : X.mg "list" = none) (hg : Gl X "range") (hm : X.mg "range" = none) (ha : PA X [ea] ta) (hs : starEach [ea] X.env = [(false, eval ea X.env)] := by rfl)
    (hs3 : starEach [.Call (.Name "range" p) [ea] [] pos] X.env = [(false, eval (.Call (.Name "range" p) [ea] [] pos) X.env)] := by rfl) :
    PE X (.Call (.Name "list" p1) [.Call (.Name "range" p) [ea] [] pos] [] pos1) (tListRange1 ta) := by
  intro pins s σ H Q I h
  refine Call_ (ld_blt I hg1 hm1 bt_list (PyProof.Rows.callWith_type1 ?_ hs3 rfl))
  rw [hs3]
  show wpAny _ _ (spliced [(false, eval (.Call (.Name "range" p) [ea] [] pos) X.env)]) _ _ s
  refine Calls.spliced_cons ?_
  refine Call_ (ld_blt I hg hm boot_range (PyProof.Rows.callWith_type1 (thn (ha pos pins s σ H _ I h) fun us s1 ⟨vs, H1, I1, r1, q1⟩ => ?_) hs rfl))
  obtain ⟨hi, e, h2, h3, q⟩ := q1
  subst e
  obtain ⟨u, rfl, ru⟩ := r1.one
  obtain ⟨t1, rfl⟩ := ru
  refine call_range_1 (Calls.spliced_nil ?_)
  have I2 : Inv X pins σ H1 { s1 with heap := s1.heap.push { cls := .type "range", data := .fields #[.int 0 s1.toks, .int hi t1, .int 1 (s1.toks + 1)] }, toks := s1.toks + 1 + 1 } := I1.kept fun b o e => Heap.get?_push_of_some _ e
  have hn : Builtin.Range.rangeSize 0 hi 1 = (((hi - 0).toNat : Nat) : Int) := by rw [rangeSize_one]; split <;> omega
  refine call_list_range (n := (hi - 0).toNat) (I.ok.hd hc) (IsRange.new ..) (small_one (by omega) (by omega) (by omega) (by omega)) hn (by omega) fun h' tk acc c' hk hS hI => ?_
  have hrl : (rangeV 0 hi).length = (hi - 0).toNat := by unfold rangeV; rw [List.length_map, List.length_range]
  have hlen : (rangeV 0 hi).length = acc.toList.length := hrl.trans (hI.1.symm.trans Array.length_toList.symm)
  have vz : Vals (rangeV 0 hi) acc.toList := by
    refine Vals.of_get hlen fun j z u e1 e2 => ?_
    rw [Array.getElem?_toList] at e2
    obtain ⟨t, rfl⟩ := hI.2 j u e2
    unfold rangeV at e1
    rw [List.getElem?_map] at e1
    cases hr : (List.range (hi - 0).toNat)[j]? with
    | none => rw [hr] at e1; cases e1
    | some k =>
      rw [hr] at e1
      cases e1
      have hk2 : k = j := by
        have := (List.getElem?_eq_some_iff.mp hr).2
        rw [List.getElem_range] at this
        exact this.symm
      subst hk2
      exact ⟨t, by rw [Int.mul_one]⟩
  refine ⟨.ref _, _, I2.laid (t' := tk) (o := .lst (rangeV 0 hi)) hk (Nat.le_refl _) ?_, rfl, q _ (I2.hok.fresh (Nat.le_refl _))⟩
  refine ⟨?_, acc.toList, c', vz, by rw [Array.toArray_toList]; exact hS⟩
  unfold rangeV
  rw [List.length_map, List.length_range, sizeLine_eq]
  omega
end L2

set_option linter.all false
set_option maxRecDepth 100000
namespace Lf
open PySem PySem.W PyProof.Rows
def krun {α : Type} (lt : Nat → Nat → Bool) : KasT α → α
  | .ret a => a
  | .ask i j k => krun lt (k (lt i j))
theorem krun_bind {α β : Type} (lt : Nat → Nat → Bool) : ∀ (t : KasT α) (f : α → KasT β), krun lt (t.bind f) = krun lt (f (krun lt t))
  | .ret a, f => rfl
  | .ask i j k, f => krun_bind lt (k (lt i j)) f
def kok {α : Type} (n : Nat) (lt : Nat → Nat → Bool) : KasT α → Prop
  | .ret _ => True
  | .ask i j k => i < n ∧ j < n ∧ kok n lt (k (lt i j))
theorem kok_bind {α β : Type} {n : Nat} {lt : Nat → Nat → Bool} : ∀ {t : KasT α} {f : α → KasT β}, kok n lt t → kok n lt (f (krun lt t)) → kok n lt (t.bind f)
  | .ret a, f, _, h => h
  | .ask i j k, f, ⟨a, b, c⟩, h => ⟨a, b, kok_bind (t := k (lt i j)) c h⟩
theorem krun_wp {α : Type} {n : Nat} {lt : Nat → Nat → Bool} {cmp : Nat → Nat → (Bool → Shared → Prop) → Shared → Prop} {s : Shared} (hc : ∀ i j (R : Bool → Shared → Prop), i < n → j < n → R (lt i j) s → cmp i j R s) {G : α → Shared → Prop} :
    ∀ (t : KasT α), kok n lt t → G (krun lt t) s → t.kasWp cmp G s
  | .ret a, _, hg => hg
  | .ask i j k, ⟨a, b, c⟩, hg => hc i j _ a b (krun_wp hc (k (lt i j)) c hg)
section
variable {lt : Nat → Nat → Bool}
structure Ord (lt : Nat → Nat → Bool) : Prop where
  tr : ∀ i j k, lt j i = false → lt k j = false → lt k i = false
  asy : ∀ i j, lt i j = true → lt j i = false
theorem Ord.rf (o : Ord lt) (i : Nat) : lt i i = false := by
  cases h : lt i i with
  | false => rfl
  | true => have := o.asy i i h; rw [h] at this; exact this
abbrev gk (p : Array Nat) (k : Nat) : Nat := p.getD k 0
theorem gk_eq {p q : Array Nat} {k j : Nat} (h : p[k]? = q[j]?) : gk p k = gk q j := by
  unfold gk
  rw [Array.getD_eq_getD_getElem?, Array.getD_eq_getD_getElem?, h]
def Srt (lt : Nat → Nat → Bool) (p : Array Nat) (n : Nat) : Prop := ∀ i j, i ≤ j → j < n → lt (gk p j) (gk p i) = false
def Dec (lt : Nat → Nat → Bool) (p : Array Nat) (n : Nat) : Prop := ∀ i j, i ≤ j → j < n → lt (gk p i) (gk p j) = false
theorem Srt.step (o : Ord lt) {p : Array Nat} {n : Nat} (h1 : 1 ≤ n) (h : Srt lt p n) (hn : lt (gk p n) (gk p (n - 1)) = false) : Srt lt p (n + 1) := by
  intro i j hij hj
  by_cases c : j = n
  · subst c
    by_cases d : i = j
    · subst d; exact o.rf _
    · exact o.tr _ _ _ (h i (j - 1) (by omega) (by omega)) hn
  · exact h i j hij (by omega)
theorem Dec.step (o : Ord lt) {p : Array Nat} {n : Nat} (h1 : 1 ≤ n) (h : Dec lt p n) (hn : lt (gk p (n - 1)) (gk p n) = false) : Dec lt p (n + 1) := by
  intro i j hij hj
  by_cases c : j = n
  · subst c
    by_cases d : i = j
    · subst d; exact o.rf _
    · exact o.tr _ _ _ hn (h i (j - 1) (by omega) (by omega))
  · exact h i j hij (by omega)
theorem gk_rev {p : Array Nat} {i j k : Nat} (hj : j ≤ p.size) : gk (kas_rev p i j) k = if i ≤ k ∧ k < j then gk p (i + j - 1 - k) else gk p k := by
  have := getElem?_mirror_all (xs := p) (i := i) (j := j) hj k
  by_cases c : i ≤ k ∧ k < j
  · rw [if_pos c] at this ⊢
    exact gk_eq this
  · rw [if_neg c] at this ⊢
    exact gk_eq this
theorem rev_size (p : Array Nat) (i j : Nat) : (kas_rev p i j).size = p.size := mirror_size _ _ _ _
theorem rev_perm (p : Array Nat) (i j : Nat) : (kas_rev p i j).Perm p := mirror_perm _ _ _ _
theorem Dec.turn {p : Array Nat} {n : Nat} (h : Dec lt p n) (hn : n ≤ p.size) : Srt lt (kas_rev p 0 n) n := by
  intro i j hij hj
  rw [gk_rev hn, gk_rev hn, if_pos ⟨by omega, by omega⟩, if_pos ⟨by omega, by omega⟩]
  exact h _ _ (by omega) (by omega)
theorem Dec.alike (o : Ord lt) {p : Array Nat} {a n : Nat} (h : Dec lt p n) (hn : n ≤ p.size) (he : ∀ i j, a ≤ i → i < n → a ≤ j → j < n → lt (gk p i) (gk p j) = false) : Dec lt (kas_rev p a n) n := by
  intro i j hij hj
  rw [gk_rev hn, gk_rev hn]
  by_cases c : a ≤ i ∧ i < n
  · rw [if_pos c, if_pos ⟨by omega, by omega⟩]
    exact he _ _ (by omega) (by omega) (by omega) (by omega)
  · rw [if_neg c]
    by_cases d : a ≤ j ∧ j < n
    · rw [if_pos d]
      exact h _ _ (by omega) (by omega)
    · rw [if_neg d]
      exact h _ _ hij hj
theorem asc_spec (o : Ord lt) {p : Array Nat} : ∀ (f n : Nat), 1 ≤ n → Srt lt p n → n ≤ krun lt (kas_asc p f n) ∧ krun lt (kas_asc p f n) ≤ n + f ∧ Srt lt p (krun lt (kas_asc p f n)) ∧ (krun lt (kas_asc p f n) = n + f ∨ lt (gk p (krun lt (kas_asc p f n))) (gk p (krun lt (kas_asc p f n) - 1)) = true)
  | 0, n, h1, h => ⟨Nat.le_refl _, Nat.le_refl _, h, .inl rfl⟩
  | f + 1, n, h1, h => by
    show n ≤ krun lt (if lt (p.getD n 0) (p.getD (n - 1) 0) = true then KasT.ret n else kas_asc p f (n + 1)) ∧ _ ≤ _ ∧ _ ∧ _
    have e : krun lt (kas_asc p (f + 1) n) = krun lt (if lt (p.getD n 0) (p.getD (n - 1) 0) = true then KasT.ret n else kas_asc p f (n + 1)) := rfl
    rw [e]
    cases hc : lt (p.getD n 0) (p.getD (n - 1) 0) with
    | true =>
      rw [if_pos rfl]
      exact ⟨Nat.le_refl _, Nat.le_add_right _ _, h, .inr hc⟩
    | false =>
      rw [if_neg (by decide)]
      obtain ⟨a, b, c, d⟩ := asc_spec o f (n + 1) (by omega) (h.step o h1 hc)
      refine ⟨by omega, by omega, c, ?_⟩
      rcases d with d | d
      · exact .inl (by omega)
      · exact .inr d
structure Fal (lt : Nat → Nat → Bool) (N : Nat) (p₀ p : Array Nat) (n q : Nat) : Prop where
  sz : p.size = p₀.size
  pm : p.Perm p₀
  dc : Dec lt p n
  q1 : q + 1 ≤ n
  nN : n ≤ N
  eq : ∀ i j, n - (q + 1) ≤ i → i < n → n - (q + 1) ≤ j → j < n → lt (gk p i) (gk p j) = false
theorem desc_spec (o : Ord lt) {N : Nat} {p₀ : Array Nat} (hN : N ≤ p₀.size) : ∀ (f : Nat) (p : Array Nat) (n q : Nat), n + f ≤ N → 1 ≤ n → Fal lt N p₀ p n q → Fal lt N p₀ (krun lt (kas_desc f p n q)).1 (krun lt (kas_desc f p n q)).2.1 (krun lt (kas_desc f p n q)).2.2 ∧ n ≤ (krun lt (kas_desc f p n q)).2.1
  | 0, p, n, q, _, _, h => ⟨h, Nat.le_refl _⟩
  | f + 1, p, n, q, hf, h1, h => by
    have e : krun lt (kas_desc (f + 1) p n q) = krun lt (if lt (p.getD n 0) (p.getD (n - 1) 0) = true then (if q > 0 then kas_desc f (kas_rev p (n - (q + 1)) n) (n + 1) 0 else kas_desc f p (n + 1) 0)
      else KasT.ask (p.getD (n - 1) 0) (p.getD n 0) fun d => if d = true then .ret (p, n, q) else kas_desc f p (n + 1) (q + 1)) := rfl
    rw [e]
    have hq := h.q1
    cases hc : lt (p.getD n 0) (p.getD (n - 1) 0) with
    | true =>
      rw [if_pos rfl]
      have hlt := o.asy _ _ hc
      by_cases cq : q > 0
      · rw [if_pos cq]
        have hnp : n ≤ p.size := by have := h.nN; rw [h.sz]; omega
        have d1 := h.dc.alike o hnp h.eq
        have g1 : gk (kas_rev p (n - (q + 1)) n) n = gk p n := by rw [gk_rev hnp, if_neg (by omega)]
        have g2 : gk (kas_rev p (n - (q + 1)) n) (n - 1) = gk p (n - (q + 1)) := by
          rw [gk_rev hnp, if_pos ⟨by omega, by omega⟩]
          congr 1
          omega
        have d2 : Dec lt (kas_rev p (n - (q + 1)) n) (n + 1) := d1.step o h1 (by
          rw [g1, g2]
          exact o.tr _ _ _ hlt (h.eq _ _ (by omega) (by omega) (by omega) (by omega)))
        obtain ⟨a, b⟩ := desc_spec o hN f (kas_rev p (n - (q + 1)) n) (n + 1) 0 (by omega) (by omega) ⟨by rw [rev_size]; exact h.sz, (rev_perm _ _ _).trans h.pm, d2, by omega, by omega, fun i j i1 i2 j1 j2 => by
          have : i = j := by omega
          subst this; exact o.rf _⟩
        exact ⟨a, by omega⟩
      · rw [if_neg cq]
        obtain ⟨a, b⟩ := desc_spec o hN f p (n + 1) 0 (by omega) (by omega) ⟨h.sz, h.pm, h.dc.step o h1 hlt, by omega, by omega, fun i j i1 i2 j1 j2 => by
          have : i = j := by omega
          subst this; exact o.rf _⟩
        exact ⟨a, by omega⟩
    | false =>
      rw [if_neg (by decide)]
      show Fal lt N p₀ (krun lt (if lt (p.getD (n - 1) 0) (p.getD n 0) = true then KasT.ret (p, n, q) else kas_desc f p (n + 1) (q + 1))).1 _ _ ∧ _
      have e2 : krun lt (KasT.ask (p.getD (n - 1) 0) (p.getD n 0) fun d => if d = true then .ret (p, n, q) else kas_desc f p (n + 1) (q + 1)) = krun lt (if lt (p.getD (n - 1) 0) (p.getD n 0) = true then KasT.ret (p, n, q) else kas_desc f p (n + 1) (q + 1)) := rfl
      rw [e2]
      cases hd : lt (p.getD (n - 1) 0) (p.getD n 0) with
      | true =>
        rw [if_pos rfl]
        exact ⟨h, Nat.le_refl _⟩
      | false =>
        rw [if_neg (by decide)]
        obtain ⟨a, b⟩ := desc_spec o hN f p (n + 1) (q + 1) (by omega) (by omega) ⟨h.sz, h.pm, h.dc.step o h1 hd, by omega, by omega, fun i j i1 i2 j1 j2 => by
          by_cases ci : i = n
          · by_cases cj : j = n
            · rw [ci, cj]; exact o.rf _
            · rw [ci]
              exact o.tr _ _ _ (h.eq (n - 1) j (by omega) (by omega) (by omega) (by omega)) hc
          · by_cases cj : j = n
            · rw [cj]
              exact o.tr _ _ _ hd (h.eq i (n - 1) (by omega) (by omega) (by omega) (by omega))
            · exact h.eq i j (by omega) (by omega) (by omega) (by omega)⟩
        exact ⟨a, by omega⟩
structure Cnt (lt : Nat → Nat → Bool) (N : Nat) (p₀ : Array Nat) (r : Nat × Array Nat) : Prop where
  sz : r.2.size = p₀.size
  pm : r.2.Perm p₀
  n1 : 1 ≤ r.1
  nN : r.1 ≤ N
  st : Srt lt r.2 r.1
theorem tail_spec (o : Ord lt) {N : Nat} {p₀ p : Array Nat} {n : Nat} (hN : N ≤ p₀.size) (h1 : 1 ≤ n) (hn : n ≤ N) (sz : p.size = p₀.size) (pm : p.Perm p₀) (dc : Dec lt p n) : Cnt lt N p₀ (krun lt (kas_tail3 n N p)) := by
  unfold kas_tail3
  rw [krun_bind]
  have s := dc.turn (by rw [sz]; omega)
  obtain ⟨a, b, c, _⟩ := asc_spec o (N - n) n h1 s
  exact ⟨by show (kas_rev p 0 n).size = _; rw [rev_size]; exact sz, (rev_perm _ _ _).trans pm, by show 1 ≤ krun lt _; omega, by show krun lt _ ≤ N; omega, c⟩
theorem descPart_spec (o : Ord lt) {N : Nat} {p₀ p : Array Nat} {n : Nat} (hN : N ≤ p₀.size) (h1 : 1 ≤ n) (hn : n + 1 ≤ N) (sz : p.size = p₀.size) (pm : p.Perm p₀) (dc : Dec lt p (n + 1)) : Cnt lt N p₀ (krun lt (kas_descPart n N p)) := by
  unfold kas_descPart
  rw [krun_bind]
  obtain ⟨a, b⟩ := desc_spec o hN (N - (n + 1)) p (n + 1) 0 (by omega) (by omega) ⟨sz, pm, dc, by omega, hn, fun i j i1 i2 j1 j2 => by
    have : i = j := by omega
    subst this; exact o.rf _⟩
  generalize krun lt (kas_desc (N - (n + 1)) p (n + 1) 0) = r at a b
  have hq := a.q1
  have hnN := a.nN
  have hsz := a.sz
  by_cases c : r.2.2 > 0
  · rw [if_pos c]
    exact tail_spec o hN (by omega) hnN (by rw [rev_size]; exact hsz) ((rev_perm _ _ _).trans a.pm) (a.dc.alike o (by omega) a.eq)
  · rw [if_neg c]
    exact tail_spec o hN (by omega) hnN hsz a.pm a.dc
theorem count_spec (o : Ord lt) {N : Nat} {p : Array Nat} (hN : N ≤ p.size) (h1 : 1 ≤ N) : Cnt lt N p (krun lt (kas_count N p)) := by
  unfold kas_count
  rw [krun_bind]
  obtain ⟨a, b, c, d⟩ := asc_spec o (p := p) (N - 1) 1 (Nat.le_refl _) (fun i j hij hj => by
    have : i = j := by omega
    subst this; exact o.rf _)
  generalize krun lt (kas_asc p (N - 1) 1) = n at a b c d
  by_cases cn : (n == N) = true
  · rw [if_pos cn]
    exact ⟨rfl, Array.Perm.refl _, a, by show n ≤ N; omega, c⟩
  · rw [if_neg cn]
    have hnN : n ≠ N := fun z => cn (by rw [z]; exact beq_self_eq_true _)
    have hlt : lt (gk p n) (gk p (n - 1)) = true := by
      rcases d with d | d
      · omega
      · exact d
    have hle := o.asy _ _ hlt
    by_cases c1 : n > 1
    · rw [if_pos c1]
      show Cnt lt N p (krun lt (if lt (p.getD 0 0) (p.getD (n - 1) 0) = true then KasT.ret (n, p) else kas_descPart n N (kas_rev p 0 n)))
      cases h0 : lt (p.getD 0 0) (p.getD (n - 1) 0) with
      | true =>
        rw [if_pos rfl]
        exact ⟨rfl, Array.Perm.refl _, a, by show n ≤ N; omega, c⟩
      | false =>
        rw [if_neg (by decide)]
        have all : ∀ i j, i < n → j < n → lt (gk p i) (gk p j) = false := fun i j hi hj => o.tr _ _ _ (c j (n - 1) (by omega) (by omega)) (o.tr _ _ _ h0 (c 0 i (by omega) hi))
        have hnp : n ≤ p.size := by omega
        refine descPart_spec o hN a (by omega) (rev_size _ _ _) (rev_perm _ _ _) ?_
        refine Dec.step o (by omega) (fun i j hij hj => ?_) ?_
        · rw [gk_rev hnp, gk_rev hnp, if_pos ⟨by omega, by omega⟩, if_pos ⟨by omega, by omega⟩]
          exact all _ _ (by omega) (by omega)
        · rw [gk_rev hnp, gk_rev hnp, if_pos ⟨by omega, by omega⟩, if_neg (by omega)]
          have e0 : 0 + n - 1 - (n - 1) = 0 := by omega
          rw [e0]
          exact o.tr _ _ _ hle h0
    · rw [if_neg c1]
      have e1 : n = 1 := by omega
      subst e1
      refine descPart_spec o hN (Nat.le_refl _) (by omega) rfl (Array.Perm.refl _) ?_
      exact Dec.step o (Nat.le_refl _) (fun i j hij hj => by
        have : i = j := by omega
        subst this; exact o.rf _) hle
theorem place_spec {p : Array Nat} {k : Nat} (o : Ord lt) (hs : Srt lt p k) : ∀ (f l r : Nat), r - l ≤ f → l ≤ r → r ≤ k → (∀ i, i < l → lt (gk p k) (gk p i) = false) → (∀ i, r ≤ i → i < k → lt (gk p i) (gk p k) = false) →
    krun lt (kas_place p k f l r) ≤ k ∧ (∀ i, i < krun lt (kas_place p k f l r) → lt (gk p k) (gk p i) = false) ∧ ∀ i, krun lt (kas_place p k f l r) ≤ i → i < k → lt (gk p i) (gk p k) = false
  | 0, l, r, hf, hlr, hr, h1, h2 => ⟨by show l ≤ k; omega, h1, fun i hi hk => h2 i (by have : l ≤ i := hi; omega) hk⟩
  | f + 1, l, r, hf, hlr, hr, h1, h2 => by
    have e : krun lt (kas_place p k (f + 1) l r) = krun lt (if l ≥ r then KasT.ret l else .ask (p.getD k 0) (p.getD ((l + r) / 2) 0) fun c => if c = true then kas_place p k f l ((l + r) / 2) else kas_place p k f ((l + r) / 2 + 1) r) := rfl
    rw [e]
    by_cases c : l ≥ r
    · rw [if_pos c]
      exact ⟨by show l ≤ k; omega, h1, fun i hi hk => h2 i (by have : l ≤ i := hi; omega) hk⟩
    · rw [if_neg c]
      have e2 : krun lt (.ask (p.getD k 0) (p.getD ((l + r) / 2) 0) fun c => if c = true then kas_place p k f l ((l + r) / 2) else kas_place p k f ((l + r) / 2 + 1) r) = krun lt (if lt (p.getD k 0) (p.getD ((l + r) / 2) 0) = true then kas_place p k f l ((l + r) / 2) else kas_place p k f ((l + r) / 2 + 1) r) := rfl
      rw [e2]
      cases hc : lt (p.getD k 0) (p.getD ((l + r) / 2) 0) with
      | true =>
        rw [if_pos rfl]
        refine place_spec o hs f l ((l + r) / 2) (by omega) (by omega) (by omega) h1 fun i hi hk => ?_
        exact o.tr _ _ _ (o.asy _ _ hc) (hs _ _ hi hk)
      | false =>
        rw [if_neg (by decide)]
        refine place_spec o hs f ((l + r) / 2 + 1) r (by omega) (by omega) hr (fun i hi => ?_) h2
        exact o.tr _ _ _ (hs i ((l + r) / 2) (by omega) (by omega)) hc
theorem gk_bubble {p : Array Nat} {k l j : Nat} (hk : k < p.size) (hl : l ≤ k) : gk (bubble p k (k - l)) j = if j = l then gk p k else if l < j ∧ j ≤ k then gk p (j - 1) else gk p j := by
  have := getElem?_bubble (xs := p) (src := k) hk (k - l) (by omega) j
  have e : k - (k - l) = l := by omega
  rw [e] at this
  by_cases c : j = l
  · rw [if_pos c] at this ⊢
    exact gk_eq this
  · rw [if_neg c] at this ⊢
    by_cases d : l < j ∧ j ≤ k
    · rw [if_pos d] at this ⊢
      exact gk_eq this
    · rw [if_neg d] at this ⊢
      exact gk_eq this
theorem bin_spec (o : Ord lt) {p₀ : Array Nat} : ∀ (f : Nat) (p : Array Nat) (k : Nat), 1 ≤ k → k + f ≤ p₀.size → p.size = p₀.size → p.Perm p₀ → Srt lt p k → (krun lt (kas_bin f p k)).Perm p₀ ∧ (krun lt (kas_bin f p k)).size = p₀.size ∧ Srt lt (krun lt (kas_bin f p k)) (k + f)
  | 0, p, k, _, _, sz, pm, hs => ⟨pm, sz, hs⟩
  | f + 1, p, k, h1, hk, sz, pm, hs => by
    show (krun lt ((kas_place p k k 0 k).bind fun l => kas_bin f (bubble p k (k - l)) (k + 1))).Perm p₀ ∧ (krun lt ((kas_place p k k 0 k).bind fun l => kas_bin f (bubble p k (k - l)) (k + 1))).size = p₀.size ∧ Srt lt (krun lt ((kas_place p k k 0 k).bind fun l => kas_bin f (bubble p k (k - l)) (k + 1))) (k + (f + 1))
    rw [krun_bind]
    obtain ⟨a, b, c⟩ := place_spec o hs k 0 k (by omega) (by omega) (Nat.le_refl _) (fun i hi => absurd hi (Nat.not_lt_zero _)) (fun i hi hk => by omega)
    generalize krun lt (kas_place p k k 0 k) = l at a b c
    have hkp : k < p.size := by omega
    have e3 : k + (f + 1) = (k + 1) + f := by omega
    rw [e3]
    refine bin_spec o f (bubble p k (k - l)) (k + 1) (by omega) (by omega) (by rw [bubble_size]; exact sz) ((bubble_perm _ _ _).trans pm) ?_
    intro i j hij hj
    rw [gk_bubble hkp a, gk_bubble hkp a]
    by_cases ci : i = l
    · rw [if_pos ci]
      by_cases cj : j = l
      · rw [if_pos cj]; exact o.rf _
      · rw [if_neg cj, if_pos ⟨by omega, by omega⟩]
        exact c (j - 1) (by omega) (by omega)
    · rw [if_neg ci]
      by_cases cj : j = l
      · rw [if_pos cj, if_neg (by omega)]
        exact b i (by omega)
      · rw [if_neg cj]
        by_cases di : l < i ∧ i ≤ k
        · rw [if_pos di, if_pos ⟨by omega, by omega⟩]
          exact hs _ _ (by omega) (by omega)
        · rw [if_neg di]
          by_cases dj : l < j ∧ j ≤ k
          · rw [if_pos dj]
            exact hs _ _ (by omega) (by omega)
          · rw [if_neg dj]
            exact hs _ _ hij (by omega)
theorem sort_spec (o : Ord lt) {n : Nat} (h2 : 2 ≤ n) : (krun lt (kas_sort n)).Perm (List.toArray (List.range n)) ∧ (krun lt (kas_sort n)).size = n ∧ Srt lt (krun lt (kas_sort n)) n := by
  unfold kas_sort
  rw [krun_bind]
  have hsz : (List.toArray (List.range n)).size = n := by rw [List.size_toArray, List.length_range]
  have h := count_spec o (N := n) (p := List.toArray (List.range n)) (by omega) (by omega)
  generalize krun lt (kas_count n (List.toArray (List.range n))) = r at h
  have a1 := h.n1
  have a2 := h.nN
  have a3 := h.sz
  by_cases c : r.1 < n
  · rw [if_pos c]
    have e : max r.1 1 = r.1 := by omega
    rw [e]
    obtain ⟨x, y, z⟩ := bin_spec o (n - r.1) r.2 r.1 a1 (by omega) a3 h.pm h.st
    refine ⟨x, y.trans hsz, ?_⟩
    have e2 : r.1 + (n - r.1) = n := by omega
    rw [e2] at z
    exact z
  · rw [if_neg c]
    refine ⟨h.pm, a3.trans hsz, ?_⟩
    have e : r.1 = n := by omega
    have := h.st
    rw [e] at this
    exact this
def Blw (n : Nat) (p : Array Nat) : Prop := 0 < n ∧ ∀ x ∈ p.toList, x < n
theorem Blw.at {n : Nat} {p : Array Nat} (h : Blw n p) (k : Nat) : p.getD k 0 < n := by
  rw [Array.getD_eq_getD_getElem?]
  cases e : p[k]? with
  | none => exact h.1
  | some x =>
    refine h.2 x ?_
    rw [← Array.getElem?_toList] at e
    exact List.mem_of_getElem? e
theorem Blw.perm {n : Nat} {p q : Array Nat} (h : Blw n p) (hp : q.Perm p) : Blw n q := ⟨h.1, fun x hx => h.2 x ((Array.perm_iff_toList_perm.mp hp).mem_iff.mp hx)⟩
theorem kok_asc {n : Nat} {p : Array Nat} (h : Blw n p) : ∀ (f m : Nat), kok n lt (kas_asc p f m)
  | 0, _ => trivial
  | f + 1, m => by
    refine ⟨h.at _, h.at _, ?_⟩
    show kok n lt (if lt (p.getD m 0) (p.getD (m - 1) 0) = true then KasT.ret m else kas_asc p f (m + 1))
    split
    · trivial
    · exact kok_asc h f (m + 1)
theorem kok_desc {n : Nat} : ∀ (f : Nat) (p : Array Nat) (m q : Nat), Blw n p → kok n lt (kas_desc f p m q)
  | 0, _, _, _, _ => trivial
  | f + 1, p, m, q, h => by
    refine ⟨h.at _, h.at _, ?_⟩
    show kok n lt (if lt (p.getD m 0) (p.getD (m - 1) 0) = true then _ else _)
    split
    · split
      · exact kok_desc f _ _ _ (h.perm (rev_perm _ _ _))
      · exact kok_desc f _ _ _ h
    · refine ⟨h.at _, h.at _, ?_⟩
      show kok n lt (if lt (p.getD (m - 1) 0) (p.getD m 0) = true then _ else _)
      split
      · trivial
      · exact kok_desc f _ _ _ h
theorem desc_perm {n : Nat} : ∀ (f : Nat) (p : Array Nat) (m q : Nat), Blw n p → Blw n (krun lt (kas_desc f p m q)).1
  | 0, _, _, _, h => h
  | f + 1, p, m, q, h => by
    show Blw n (krun lt (if lt (p.getD m 0) (p.getD (m - 1) 0) = true then (if q > 0 then kas_desc f (kas_rev p (m - (q + 1)) m) (m + 1) 0 else kas_desc f p (m + 1) 0)
      else KasT.ask (p.getD (m - 1) 0) (p.getD m 0) fun d => if d = true then .ret (p, m, q) else kas_desc f p (m + 1) (q + 1))).1
    split
    · split
      · exact desc_perm f _ _ _ (h.perm (rev_perm _ _ _))
      · exact desc_perm f _ _ _ h
    · show Blw n (krun lt (if lt (p.getD (m - 1) 0) (p.getD m 0) = true then KasT.ret (p, m, q) else kas_desc f p (m + 1) (q + 1))).1
      split
      · exact h
      · exact desc_perm f _ _ _ h
theorem kok_tail {n m N : Nat} {p : Array Nat} (h : Blw n p) : kok n lt (kas_tail3 m N p) := kok_bind (kok_asc (h.perm (rev_perm _ _ _)) _ _) trivial
theorem kok_descPart {n m N : Nat} {p : Array Nat} (h : Blw n p) : kok n lt (kas_descPart m N p) := by
  refine kok_bind (kok_desc _ _ _ _ h) ?_
  have := desc_perm (lt := lt) (N - (m + 1)) p (m + 1) 0 h
  split
  · exact kok_tail (this.perm (rev_perm _ _ _))
  · exact kok_tail this
theorem kok_count {n N : Nat} {p : Array Nat} (h : Blw n p) : kok n lt (kas_count N p) := by
  refine kok_bind (kok_asc h _ _) ?_
  split
  · trivial
  · split
    · refine ⟨h.at _, h.at _, ?_⟩
      dsimp only
      split
      · trivial
      · exact kok_descPart (h.perm (rev_perm _ _ _))
    · exact kok_descPart h
theorem kok_place {n k : Nat} {p : Array Nat} (h : Blw n p) : ∀ (f l r : Nat), kok n lt (kas_place p k f l r)
  | 0, _, _ => trivial
  | f + 1, l, r => by
    unfold kas_place
    split
    · trivial
    · refine ⟨h.at _, h.at _, ?_⟩
      dsimp only
      split
      · exact kok_place h f _ _
      · exact kok_place h f _ _
theorem kok_bin {n : Nat} : ∀ (f : Nat) (p : Array Nat) (k : Nat), Blw n p → kok n lt (kas_bin f p k)
  | 0, _, _, _ => trivial
  | f + 1, p, k, h => kok_bind (kok_place h _ _ _) (kok_bin f _ _ (h.perm (bubble_perm _ _ _)))
theorem kok_sort (o : Ord lt) {n : Nat} (h2 : 2 ≤ n) : kok n lt (kas_sort n) := by
  have hb : Blw n (List.toArray (List.range n)) := ⟨by omega, fun x hx => by simpa using hx⟩
  refine kok_bind (kok_count hb) ?_
  have hsz : (List.toArray (List.range n)).size = n := by rw [List.size_toArray, List.length_range]
  have h := count_spec o (N := n) (p := List.toArray (List.range n)) (by omega) (by omega)
  split
  · exact kok_bin _ _ _ (hb.perm h.pm)
  · trivial
end
end Lf

set_option Elab.async false
set_option linter.all false
set_option maxRecDepth 100000
set_option maxHeartbeats 4000000
namespace L2
open PySem PySem.Spec PyProof.Rows PySem.W
theorem lex_len : ∀ {ns ms : List Int} {fin : Bool}, fin = decide (ns.length < ms.length) → (ns = [] ∨ ms = []) → HT.lexLt ns ms = fin
  | [], [], _, h, _ => by rw [h]; rfl
  | [], _ :: _, _, h, _ => by rw [h, HT.lexLt_nil_cons]; exact (decide_eq_true (by simp)).symm
  | _ :: _, [], _, h, _ => by rw [h, HT.lexLt_cons_nil]; exact (decide_eq_false (by simp)).symm
  | _ :: _, _ :: _, _, _, h => by rcases h with h | h <;> cases h
section
variable {prog : Program} {w : World} {A : Around} {E : Value → Shared → Prop} {s : Shared}
theorem katLex_ints {fin : Bool} {Q : Bool → Shared → Prop} : ∀ {vs ws : List Value} {ns ms : List Int} (i : Nat), IntsAre vs ns → IntsAre ws ms → fin = decide (ns.length < ms.length) → Q (HT.lexLt ns ms) s → KatLex prog w A true fin Q (vs.zip ws) i s
  | _, _, _, _, i, .nil, _, hf, h => by
    rw [lex_len hf (.inl rfl)] at h
    exact kat_nil h
  | _, _, _, _, i, .cons _ _ _, .nil, hf, h => by
    rw [lex_len hf (.inr rfl)] at h
    exact kat_nil h
  | _, _, _, _, i, .cons x t hx, .cons y u hy, hf, h => by
    rw [List.zip_cons_cons]
    refine kat_cons (wpAny_eqBool_int ?_)
    rw [HT.lexLt_cons] at h
    by_cases c : x = y
    · rw [if_pos c] at h
      have e : (x == y) = true := by rw [c]; exact beq_self_eq_true _
      rw [e]
      refine kat_yes (katLex_ints (i + 1) hx hy ?_ h)
      rw [hf]
      simp
    · rw [if_neg c] at h
      have e : (x == y) = false := beq_eq_false_iff_ne.mpr c
      rw [e]
      refine kat_no ?_
      cases i with
      | zero => exact oneLt_int h
      | succ k => exact kat_one _ _ (lt_int h)
def TupI (h : Heap) (a : Addr) (ns : List Int) : Prop := ∃ its : List Value, IsTup h a its.toArray ∧ IntsAre its ns
theorem TupI.keep {h h' : Heap} {a : Addr} {ns : List Int} (x : TupI h a ns) (k : ∀ o, h.get? a = some o → h'.get? a = some o) : TupI h' a ns := by
  obtain ⟨its, ⟨o, ho, hc, n, hd⟩, hi⟩ := x
  exact ⟨its, ⟨o, k o ho, hc, n, hd⟩, hi⟩
theorem keyLt_tup {x y : Addr} {ns ms : List Int} {Q : Bool → Shared → Prop} (hx : TupI s.heap x ns) (hy : TupI s.heap y ms) (h : Q (HT.lexLt ns ms) s) : wpAny (model prog w) A (keyLt' (tuples' true) (.ref x) (.ref y)) Q E s := by
  obtain ⟨its, ⟨o, ho, hc, n, hd⟩, hi⟩ := hx
  obtain ⟨its2, ⟨o2, ho2, hc2, n2, hd2⟩, hi2⟩ := hy
  refine kat_lt ho hd ho2 hd2 (katLex_ints 0 hi hi2 ?_ h)
  rw [List.size_toArray, List.size_toArray]
  have a1 : its.length = ns.length := by rw [← hi.nums, List.length_map]
  have a2 : its2.length = ms.length := by rw [← hi2.nums, List.length_map]
  rw [a1, a2]
abbrev TI2 := Addr × List Int
def t0 : TI2 := (0, [])
def ltT (ts : List TI2) (i j : Nat) : Bool := HT.lexLt (ts.getD i t0).2 (ts.getD j t0).2
theorem ltT_ord (ts : List TI2) : Lf.Ord (ltT ts) := ⟨fun _ _ _ a b => lex_trans a b, fun _ _ a => lex_asym a⟩
theorem katTups_of {h : Heap} : ∀ {ts : List TI2}, (∀ t ∈ ts, TupI h t.1 t.2 ∧ t.2 ≠ []) → ∃ fs : List Value, KatTups h (ts.map fun t => Value.ref t.1) fs ∧ fs.length = ts.length ∧ ∀ v ∈ fs, ∃ x t, v = Value.int x t
  | [], _ => ⟨[], KatTups.nil, rfl, fun v hv => by cases hv⟩
  | (a0, ns0) :: ts, hT => by
    obtain ⟨fs, a, b, c⟩ := katTups_of (ts := ts) fun u hu => hT u (List.mem_cons_of_mem _ hu)
    obtain ⟨⟨its, ⟨o, ho, hc, n, hd⟩, hi⟩, hne⟩ := hT (a0, ns0) List.mem_cons_self
    dsimp only at hi ho hne
    cases hi with
    | nil => exact absurd rfl hne
    | @cons x tk vs ns hr =>
      refine ⟨Value.int x tk :: fs, KatTups.cons ho hc hd (by simp) a, by simp [b], fun v hv => ?_⟩
      rcases List.mem_cons.mp hv with e | e
      · exact ⟨x, tk, e⟩
      · exact c v e
set_option maxHeartbeats 8000000 in
theorem sort_tup {a : Addr} {ts : List TI2} {n : Nat} {P : Fin → Shared → Prop} (ho : s.heap.get? a = some (seqObj "list" (ts.map fun t => Value.ref t.1).toArray n)) (hT : ∀ t ∈ ts, TupI s.heap t.1 t.2 ∧ t.2 ≠ []) (hna : ∀ t ∈ ts, t.1 ≠ a) (h2 : 2 ≤ ts.length) (h64 : ts.length < 64)
    (q : ∀ us : List TI2, us.Perm ts → (us.Pairwise fun x y => HT.lexLt y.2 x.2 = false) → P (.done (.ret .none)) { s with heap := sortedHeap s.heap a (ts.map fun t => Value.ref t.1) (us.map fun t => Value.ref t.1).toArray }) : wpAny (model prog w) A (Builtin.«list.sort» ⟨[.ref a], []⟩) P E s := by
  generalize hvs : (ts.map fun t => Value.ref t.1) = vs at *
  have hlen : vs.length = ts.length := by rw [← hvs, List.length_map]
  rw [list_sort_plain]
  have ha : a < s.heap.objs.size := Heap.lt_size ho
  have hsz : vs.toArray.size = vs.length := by simp
  refine wpAny_bind (listItems_at ho rfl (wpAny_bind (listUpdate_at ho rfl ?_ (by rw [hsz, sizeLine_eq]; omega) (Nat.zero_le _))))
  obtain ⟨e1, ho1⟩ : ∃ e, (s.heap.update a (Obj.mapSeq fun _ => #[])).get? a = some (seqObj "list" #[] e) := ⟨_, get?_update_seq ho (fun _ => #[])⟩
  refine wpAny_bind (seqEpoch_at ho1 rfl (wpAny_bind (wpAny_newTuple (wpAny_bind (wpAny_newList (wpAny_holding ?_))))))
  have ho6 : (((s.heap.update a (Obj.mapSeq fun _ => #[])).push (seqObj "tuple" vs.toArray 0)).push (seqObj "list" #[] 0)).get? a = some (seqObj "list" #[] e1) := (Heap.get?_push_ne _ _ _ (by rw [size_push', Heap.size_update]; exact Nat.ne_of_lt (Nat.lt_succ_of_lt ha))).trans ((Heap.get?_push_ne _ _ _ (by rw [Heap.size_update]; exact Nat.ne_of_lt ha)).trans ho1)
  have keep : ∀ b o, b ≠ a → s.heap.get? b = some o → (((s.heap.update a (Obj.mapSeq fun _ => #[])).push (seqObj "tuple" vs.toArray 0)).push (seqObj "list" #[] 0)).get? b = some o := fun b o hb e => Heap.get?_push_of_some _ (Heap.get?_push_of_some _ ((Heap.get?_update_other _ _ (Ne.symm hb)).trans e))
  show wpAny (model prog w) A _ P E { s with heap := ((s.heap.update a (Obj.mapSeq fun _ => #[])).push (seqObj "tuple" vs.toArray 0)).push (seqObj "list" #[] 0) }
  have hT2 : ∀ t ∈ ts, TupI (((s.heap.update a (Obj.mapSeq fun _ => #[])).push (seqObj "tuple" vs.toArray 0)).push (seqObj "list" #[] 0)) t.1 t.2 ∧ t.2 ≠ [] := fun t ht => ⟨(hT t ht).1.keep fun o e => keep _ o (hna t ht) e, (hT t ht).2⟩
  dsimp only
  have hlt : ¬ vs.toArray.size < 2 := by omega
  rw [if_neg hlt, if_neg hlt]
  obtain ⟨fs, k1, k2, k3⟩ := katTups_of hT2
  rw [hvs] at k1
  refine wpAny_bind (kat_kind (T := Value.type "int") k1 (by omega) (fun v hv => ?_) rfl ?_)
  · obtain ⟨x, tk, rfl⟩ := k3 v hv
    exact fun A Q E s _ h => wpAny_pure h
  have hkind : tuples' (Value.type "int" != Value.type "tuple") = tuples' true := by
    have : (Value.type "int" != Value.type "tuple") = true := by decide +kernel
    rw [this]
  rw [hkind]
  obtain ⟨p1, p2, p3⟩ := Lf.sort_spec (ltT_ord ts) (n := vs.length) (by omega)
  refine wpAny_bind (wpAny_mono (kat_run (ks := vs) (vs := vs) (Q := fun st' s' => s' = { s with heap := ((s.heap.update a (Obj.mapSeq fun _ => #[])).push (seqObj "tuple" vs.toArray 0)).push (seqObj "list" #[] 0) } ∧ arrOf st' = (Lf.krun (ltT ts) (kas_sort vs.length)).map (kas_item (vs.toArray.zip vs.toArray)) ∧ failedOf st' = none)
    (G := fun p s' => p = Lf.krun (ltT ts) (kas_sort vs.length) ∧ s' = { s with heap := ((s.heap.update a (Obj.mapSeq fun _ => #[])).push (seqObj "tuple" vs.toArray 0)).push (seqObj "list" #[] 0) }) rfl (by omega) (by omega)
    (fun p st' s' a1 a2 a3 a4 => ⟨a4.2, by rw [← a4.1]; exact a2, a3⟩) (Lf.krun_wp (n := vs.length) (lt := ltT ts) (fun i j R hi hj hR => ?_) _ (Lf.kok_sort (ltT_ord ts) (by omega)) ⟨rfl, rfl⟩)) ?_ fun _ _ e => e)
  · have gi : ∀ i, i < vs.length → vs.getD i Value.none = .ref (ts.getD i t0).1 ∧ ts.getD i t0 ∈ ts := fun i hi => by
      have hi2 : i < ts.length := by omega
      rw [← hvs, List.getD_eq_getElem?_getD, List.getElem?_map, List.getD_eq_getElem?_getD, List.getElem?_eq_getElem hi2]
      exact ⟨rfl, List.getElem_mem _⟩
    obtain ⟨x1, x2⟩ := gi i hi
    obtain ⟨y1, y2⟩ := gi j hj
    show wpAny (model prog w) A (keyLt' _ (vs.getD i Value.none) (vs.getD j Value.none)) R _ _
    rw [x1, y1]
    exact keyLt_tup (hT2 _ x2).1 (hT2 _ y2).1 hR
  rintro ⟨⟨⟩, z⟩ s' ⟨rfl, har, hf⟩
  dsimp only
  have hout := kat_snds (ks := vs) (vs := vs) rfl har
  have hosz : ((arrOf z).map (·.2)).size = vs.length := by rw [hout, List.size_toArray, List.length_map, Array.length_toList, p2]
  refine wpAny_bind (seqEpoch_at ho6 rfl (wpAny_bind (listUpdate_at ho6 rfl ?_ (hsz2 := Nat.le_trans (Nat.le_of_eq hosz) (by rw [sizeLine_eq]; omega)))))
  rw [hf, hout]
  simp only [bne_self_eq_false, Bool.false_eq_true, if_false]
  have hus : ((Lf.krun (ltT ts) (kas_sort vs.length)).toList.map fun i => vs.getD i Value.none) = (((Lf.krun (ltT ts) (kas_sort vs.length)).toList.map fun i => ts.getD i t0)).map fun t => Value.ref t.1 := by
    rw [List.map_map]
    refine List.map_congr_left fun i hi => ?_
    have hi2 : i < vs.length := by
      have := (Array.perm_iff_toList_perm.mp p1).mem_iff.mp hi
      simpa using this
    have hi3 : i < ts.length := by omega
    show vs.getD i Value.none = Value.ref (ts.getD i t0).1
    rw [← hvs, List.getD_eq_getElem?_getD, List.getElem?_map, List.getD_eq_getElem?_getD, List.getElem?_eq_getElem hi3]
    rfl
  rw [hus]
  refine wpAny_pure (q _ ?_ ?_)
  · have a1 : ((Lf.krun (ltT ts) (kas_sort vs.length)).toList.map fun i => ts.getD i t0).Perm ((List.range vs.length).map fun i => ts.getD i t0) := (Array.perm_iff_toList_perm.mp p1).map _
    have a2 : ((List.range vs.length).map fun i => ts.getD i t0) = ts := by
      rw [hlen]
      refine List.ext_getElem? fun k => ?_
      rw [List.getElem?_map]
      by_cases hk : k < ts.length
      · rw [List.getElem?_range hk]
        show some (ts.getD k t0) = _
        rw [List.getD_eq_getElem?_getD, List.getElem?_eq_getElem hk]
        rfl
      · rw [List.getElem?_eq_none (l := List.range ts.length) (by rw [List.length_range]; omega), List.getElem?_eq_none (by omega)]
        rfl
    rw [a2] at a1
    exact a1
  · rw [List.pairwise_iff_getElem]
    intro i j hi hj hij
    rw [List.length_map, Array.length_toList, p2] at hi hj
    rw [List.getElem_map, List.getElem_map]
    have := p3 i j (Nat.le_of_lt hij) hj
    unfold Lf.gk at this
    rw [Array.getD_eq_getD_getElem?, Array.getD_eq_getD_getElem?, Array.getElem?_eq_getElem (by omega), Array.getElem?_eq_getElem (by omega)] at this
    simpa [ltT] using this
theorem sorted_tup {l : Addr} {ts : List TI2} {Q : Value → Shared → Prop} (hl : s.heap.IsList l (ts.map fun t => Value.ref t.1).toArray) (hT : ∀ t ∈ ts, TupI s.heap t.1 t.2 ∧ t.2 ≠ []) (h2 : 2 ≤ ts.length) (h64 : ts.length < 64)
    (q : ∀ us : List TI2, us.Perm ts → (us.Pairwise fun x y => HT.lexLt y.2 x.2 = false) → Q (.ref (s.heap.objs.size + 1)) { s with heap := sortedAll s.heap (ts.map fun t => Value.ref t.1) (us.map fun t => Value.ref t.1).toArray }) : wpAny (model prog w) A (call (.builtin "sorted") [.ref l]) Q E s := by
  refine Calls.call_function_entry kind_sorted plain_sorted entry_sorted (args_sorted1 _) ?_
  unfold Builtin.«sorted»
  refine wpAny_bind (m := checkCount "sorted" 1 1 _) (wpAny_pure (wpAny_bind (collect_list hl (wpAny_bind (wpAny_newList ?_)) (by rw [List.length_map, sizeLine_eq]; omega))))
  have hsz : ((s.heap.push (seqObj "list" #[] 0)).update s.heap.objs.size (Obj.mapSeq (· ++ (ts.map fun t => Value.ref t.1).toArray))).objs.size = s.heap.objs.size + 1 := (Heap.size_update ..).trans (size_push' ..)
  have hoL : (((s.heap.push (seqObj "list" #[] 0)).update s.heap.objs.size (Obj.mapSeq (· ++ (ts.map fun t => Value.ref t.1).toArray))).push (seqObj "list" (ts.map fun t => Value.ref t.1).toArray 0)).get? (s.heap.objs.size + 1) = some (seqObj "list" (ts.map fun t => Value.ref t.1).toArray 0) := hsz ▸ Heap.get?_push_size _ rfl
  have keep : ∀ b o, s.heap.get? b = some o → (((s.heap.push (seqObj "list" #[] 0)).update s.heap.objs.size (Obj.mapSeq (· ++ (ts.map fun t => Value.ref t.1).toArray))).push (seqObj "list" (ts.map fun t => Value.ref t.1).toArray 0)).get? b = some o := fun b o e =>
    Heap.get?_push_of_some _ ((Heap.get?_update_other _ _ (Nat.ne_of_gt (Heap.lt_size e))).trans (Heap.get?_push_of_some _ e))
  show wpAny _ _ _ _ _ { s with heap := ((s.heap.push (seqObj "list" #[] 0)).update s.heap.objs.size (Obj.mapSeq (· ++ (ts.map fun t => Value.ref t.1).toArray))).push (seqObj "list" (ts.map fun t => Value.ref t.1).toArray 0) }
  rw [hsz]
  exact wpAny_bind (wpAny_holding (wpAny_call_entry slot_list_sort ⟨_, hoL, rfl⟩ entry_list_sort (sort_tup hoL (fun t ht => ⟨(hT t ht).1.keep fun o e => keep _ o e, (hT t ht).2⟩) (fun t ht => by
    obtain ⟨its, ⟨o, ho, _⟩, _⟩ := (hT t ht).1
    exact Nat.ne_of_lt (Nat.lt_succ_of_lt (Heap.lt_size ho))) h2 h64 fun us c1 c2 => ⟨_, rfl, wpAny_pure ⟨_, rfl, q us c1 c2⟩⟩) (args_list_sort _)))
end
section
variable {X : Cx}
theorem vals_refs : ∀ (us : List TI2), Vals (us.map fun t => V.ref t.1) (us.map fun t => Value.ref t.1)
  | [] => .nil
  | t :: us => .cons rfl (vals_refs us)
theorem zip_snd (vs : List Value) : ((vs.toArray.zip vs.toArray).map (·.2)) = vs.toArray := by
  apply Array.toList_inj.mp
  rw [Array.toList_map, Array.toList_zip]
  simp only [List.toList_toArray]
  exact List.map_snd_zip (Nat.le_refl _)
theorem sort_few {prog : Program} {w : World} {A : Around} {E : Value → Shared → Prop} {s : Shared} {a : Addr} {vs : List Value} {n : Nat} {P : Fin → Shared → Prop} (ho : s.heap.get? a = some (seqObj "list" vs.toArray n)) (h2 : vs.length < 2)
    (q : P (.done (.ret .none)) { s with heap := sortedHeap s.heap a vs vs.toArray }) : wpAny (model prog w) A (Builtin.«list.sort» ⟨[.ref a], []⟩) P E s := by
  rw [list_sort_plain]
  have ha : a < s.heap.objs.size := Heap.lt_size ho
  have hsz : vs.toArray.size = vs.length := by simp
  refine wpAny_bind (listItems_at ho rfl (wpAny_bind (listUpdate_at ho rfl ?_ (by rw [hsz, sizeLine_eq]; omega) (Nat.zero_le _))))
  obtain ⟨e1, ho1⟩ : ∃ e, (s.heap.update a (Obj.mapSeq fun _ => #[])).get? a = some (seqObj "list" #[] e) := ⟨_, get?_update_seq ho (fun _ => #[])⟩
  refine wpAny_bind (seqEpoch_at ho1 rfl (wpAny_bind (wpAny_newTuple (wpAny_bind (wpAny_newList (wpAny_holding ?_))))))
  have ho6 : (((s.heap.update a (Obj.mapSeq fun _ => #[])).push (seqObj "tuple" vs.toArray 0)).push (seqObj "list" #[] 0)).get? a = some (seqObj "list" #[] e1) := (Heap.get?_push_ne _ _ _ (by rw [size_push', Heap.size_update]; exact Nat.ne_of_lt (Nat.lt_succ_of_lt ha))).trans ((Heap.get?_push_ne _ _ _ (by rw [Heap.size_update]; exact Nat.ne_of_lt ha)).trans ho1)
  show wpAny (model prog w) A _ P E { s with heap := ((s.heap.update a (Obj.mapSeq fun _ => #[])).push (seqObj "tuple" vs.toArray 0)).push (seqObj "list" #[] 0) }
  dsimp only
  have hlt : vs.toArray.size < 2 := by omega
  rw [if_pos hlt, if_pos hlt]
  refine wpAny_bind (wpAny_pure ?_)
  rw [StateT.run_pure]
  have hz : ((vs.toArray.zip vs.toArray).map (·.2)).size ≤ sizeLine := by rw [zip_snd, hsz, sizeLine_eq]; omega
  refine wpAny_bind (wpAny_pure (wpAny_bind (seqEpoch_at ho6 rfl (wpAny_bind (listUpdate_at ho6 rfl ?_ (hsz2 := Nat.le_succ_of_le hz))))))
  simp only [bne_self_eq_false, Bool.false_eq_true, if_false]
  refine wpAny_pure ?_
  have e : (arrOf (SortSt.mk' general' (vs.toArray.zip vs.toArray) #[] 7 none)).map (·.2) = vs.toArray := zip_snd vs
  rw [e]
  exact q
theorem sorted_few {prog : Program} {w : World} {A : Around} {E : Value → Shared → Prop} {s : Shared} {l : Addr} {vs : List Value} {Q : Value → Shared → Prop} (hl : s.heap.IsList l vs.toArray) (h2 : vs.length < 2)
    (q : Q (.ref (s.heap.objs.size + 1)) { s with heap := sortedAll s.heap vs vs.toArray }) : wpAny (model prog w) A (call (.builtin "sorted") [.ref l]) Q E s := by
  refine Calls.call_function_entry kind_sorted plain_sorted entry_sorted (args_sorted1 _) ?_
  unfold Builtin.«sorted»
  refine wpAny_bind (m := checkCount "sorted" 1 1 _) (wpAny_pure (wpAny_bind (collect_list hl (wpAny_bind (wpAny_newList ?_)) (by rw [sizeLine_eq]; omega))))
  have hsz : ((s.heap.push (seqObj "list" #[] 0)).update s.heap.objs.size (Obj.mapSeq (· ++ vs.toArray))).objs.size = s.heap.objs.size + 1 := (Heap.size_update ..).trans (size_push' ..)
  have hoL : (((s.heap.push (seqObj "list" #[] 0)).update s.heap.objs.size (Obj.mapSeq (· ++ vs.toArray))).push (seqObj "list" vs.toArray 0)).get? (s.heap.objs.size + 1) = some (seqObj "list" vs.toArray 0) := hsz ▸ Heap.get?_push_size _ rfl
  show wpAny _ _ _ _ _ { s with heap := ((s.heap.push (seqObj "list" #[] 0)).update s.heap.objs.size (Obj.mapSeq (· ++ vs.toArray))).push (seqObj "list" vs.toArray 0) }
  rw [hsz]
  exact wpAny_bind (wpAny_holding (wpAny_call_entry slot_list_sort ⟨_, hoL, rfl⟩ entry_list_sort (sort_few hoL h2 ⟨_, rfl, wpAny_pure ⟨_, rfl, q⟩⟩) (args_list_sort _)))
theorem call_sortedT : CallR X (.builtin "sorted") (fun xs H Q => ∃ (p : Addr) (ts : List TI2), xs = [.ref p] ∧ SqL X.K H p (ts.map fun t => V.ref t.1) ∧ (∀ t ∈ ts, SqT X.K H t.1 (t.2.map V.int) ∧ t.2 ≠ []) ∧ ts.length < 64 ∧
    ∀ us : List TI2, us.Perm ts → (us.Pairwise fun x y => HT.lexLt y.2 x.2 = false) → ∀ l, H l = none → Q (.ref l) (upd H l (.lst (us.map fun t => V.ref t.1)))) := by
  intro pins s σ H xs us Q I r h
  obtain ⟨p, ts, rfl, hq, hT, h64, q⟩ := h
  obtain ⟨u, rfl, rx⟩ := vals1 r
  cases rx
  obtain ⟨its, r', pl, hz'⟩ := I.list hq
  have hits := refs_of r'
  have pl' := pl.isList
  rw [hits] at pl'
  by_cases h2 : ts.length < 2
  · refine sorted_few pl' (by rw [List.length_map]; exact h2) ?_
    obtain ⟨e, he⟩ := sortedAll_at s.heap (ts.map fun t => Value.ref t.1) (ts.map fun t => Value.ref t.1).toArray
    refine ⟨.ref (s.heap.objs.size + 1), _, I.laid (t' := s.toks) (fun _ _ => sortedAll_old) (Nat.le_succ _) (show ObjOk X.prog X.w _ _ _ (.lst (ts.map fun t => V.ref t.1)) from ⟨hz', ts.map fun t => Value.ref t.1, e, vals_refs ts, he⟩), rfl, q ts (List.Perm.refl _) ?_ _ (I.hok.fresh (Nat.le_succ _))⟩
    match ts, h2 with
    | [], _ => exact List.Pairwise.nil
    | [t], _ => exact List.pairwise_singleton _ _
  refine sorted_tup pl' (fun t ht => ?_) (by omega) h64 fun us c1 c2 => ?_
  · obtain ⟨i1, r1, p1, _⟩ := I.tuple (hT t ht).1
    exact ⟨⟨i1, p1, intsAre_of r1⟩, (hT t ht).2⟩
  obtain ⟨e, he⟩ := sortedAll_at s.heap (ts.map fun t => Value.ref t.1) (us.map fun t => Value.ref t.1).toArray
  have hlen : us.length = ts.length := c1.length_eq
  refine ⟨.ref (s.heap.objs.size + 1), _, I.laid (t' := s.toks) (fun _ _ => sortedAll_old) (Nat.le_succ _) (show ObjOk X.prog X.w _ _ _ (.lst (us.map fun t => V.ref t.1)) from ⟨by rw [List.length_map, hlen]; rw [List.length_map] at hz'; exact hz', us.map fun t => Value.ref t.1, e, vals_refs us, he⟩), rfl, q us c1 c2 _ (I.hok.fresh (Nat.le_succ _))⟩
end
end L2

set_option Elab.async false
set_option linter.all false
set_option maxRecDepth 100000
set_option maxHeartbeats 4000000
namespace L2
open PySem PySem.Spec PyProof.Rows PySem.W
section
variable {prog : Program} {w : World} {A : Around} {E : Value → Shared → Prop} {s : Shared} {x : Str}
def TupW (x : Str) (h : Heap) (a : Addr) (ns : List Int) : Prop := ∃ (tk : Tok) (its : List Value), IsTup h a (Value.str x tk :: its).toArray ∧ IntsAre its ns
end
section
variable {X : Cx}
end

def Itrs (lo c : Int) (n : Nat) : It := ⟨fun i _ => i < n, fun i H x H' => H' = H ∧ x = .int (lo + i * c), fun i _ => n ≤ i⟩
section
variable {X : Cx} {tg : Expr}
def iRng3 (ta : TA) : TI := fun σ H R => ta σ H fun vs H1 => ∃ j c : Int, vs = [.int 0, .int j, .int c] ∧ (-(2 ^ 61) ≤ j ∧ j < 2 ^ 61 ∧ 1 ≤ c ∧ c < 2 ^ 20) ∧ ∀ n : Nat, (∀ i : Nat, i < n → (i : Int) * c < j) → (n : Int) ≤ max j 0 → R (Itrs 0 c n) H1
end
end L2

set_option linter.all false
namespace Lf
open PySem
def Pw (m : Int) : Prop := m = 1 ∨ m = 2 ∨ m = 4 ∨ m = 8
theorem up_one {m : Int} (h : 1 ≤ m) : up 1 m = m := by
  obtain ⟨a, b⟩ := up_bounds (n := 1) (m := m) (by omega)
  exact mod_unique (by omega) up_mod (Int.emod_self) (by omega) (by omega)
end Lf

set_option linter.all false
namespace Lf
open PySem
def frStep (r : Int × Int) (p : Int) (s : Int × Int) : Int := if s.1 < p + r.1 ∧ p < s.2 then up s.2 r.2 else p
def fr (ly : List (Int × Int)) (b : Int) (r : Int × Int) : Int := ly.foldl (frStep r) (up b r.2)
def Rising (ly : List (Int × Int)) : Prop := (∀ s ∈ ly, 0 ≤ s.1 ∧ s.1 < s.2) ∧ ly.Pairwise fun s t => s.2 ≤ t.1
def rk (rs : List (Int × Int)) (k : Nat) : Int × Int := rs.getD k (0, 1)
abbrev Way := Int × Nat × Int
def wlt (a b : Way) : Bool := if a.1 = b.1 then (if a.2.1 = b.2.1 then decide (a.2.2 < b.2.2) else decide (a.2.1 < b.2.1)) else decide (a.1 < b.1)
def wmin (d : Way) : List Way → Way
  | [] => d
  | a :: r => wmin (if wlt a d then a else d) r
def w0 : Way := (0, 0, 0)
def lmin : List Way → Way
  | [] => w0
  | a :: r => wmin a r
def candOf (rs ly : List (Int × Int)) (ws : List Way) (g k : Nat) : Way := (fr ly (ws.getD (g - 2 ^ k) w0).1 (rk rs k) + (rk rs k).1, k, fr ly (ws.getD (g - 2 ^ k) w0).1 (rk rs k))
def cands (rs ly : List (Int × Int)) (ws : List Way) (g n : Nat) : List Way := ((List.range n).filter fun k => g.testBit k).map (candOf rs ly ws g)
def wy (rs ly : List (Int × Int)) : Nat → List Way
  | 0 => [w0]
  | g + 1 => wy rs ly g ++ [lmin (cands rs ly (wy rs ly g) (g + 1) rs.length)]
def way (rs ly : List (Int × Int)) (g : Nat) : Way := (wy rs ly g).getD g w0
section
variable {rs ly : List (Int × Int)}
def Good (rs : List (Int × Int)) : Prop := rs.length ≤ 5 ∧ ∀ k, k < rs.length → 1 ≤ (rk rs k).1 ∧ 1 ≤ (rk rs k).2 ∧ (rk rs k).2 ≤ 8
end
end Lf

set_option linter.all false
namespace Lf
open PySem
inductive Leaf (rs ly : List (Int × Int)) : Int → List Nat → Int → Prop
  | done (e : Int) : Leaf rs ly e [] e
  | step {e : Int} {left : List Nat} {k : Nat} {x : Int} (hk : k ∈ left) (h : Leaf rs ly (fr ly e (rk rs k) + (rk rs k).1) (left.filter fun j => decide (j ≠ k)) x) : Leaf rs ly e left x
def compl (n g : Nat) : List Nat := (List.range n).filter fun j => !(g.testBit j)
section
variable {rs ly : List (Int × Int)}
def full (rs : List (Int × Int)) : Nat := 2 ^ rs.length - 1
def back (rs ly : List (Int × Int)) : Nat → Nat → List Int → List Int
  | 0, _, ps => ps
  | f + 1, g, ps => if g = 0 then ps else back rs ly f (g - 2 ^ (way rs ly g).2.1) (ps.set (way rs ly g).2.1 (way rs ly g).2.2)
def pk (ps : List Int) (k : Nat) : Int := ps.getD k 0
structure Bk (rs ly : List (Int × Int)) (g : Nat) (ps : List Int) : Prop where
  len : ps.length = rs.length
  ok : ∀ k, k < rs.length → g.testBit k = false → 0 ≤ pk ps k ∧ pk ps k % (rk rs k).2 = 0 ∧ (∀ s ∈ ly, pk ps k + (rk rs k).1 ≤ s.1 ∨ s.2 ≤ pk ps k) ∧ (way rs ly g).1 ≤ pk ps k ∧ pk ps k + (rk rs k).1 ≤ (way rs ly (full rs)).1
  dis : ∀ k j, k < rs.length → j < rs.length → k ≠ j → g.testBit k = false → g.testBit j = false → pk ps k + (rk rs k).1 ≤ pk ps j ∨ pk ps j + (rk rs j).1 ≤ pk ps k
  mx : g = full rs ∨ ∃ k, k < rs.length ∧ g.testBit k = false ∧ pk ps k + (rk rs k).1 = (way rs ly (full rs)).1
def dpP (rs ly : List (Int × Int)) : List Int := back rs ly (full rs) (full rs) (List.replicate rs.length 0)
def endsP (rs : List (Int × Int)) (ps : List Int) : List Int := (List.range rs.length).map fun k => pk ps k + (rk rs k).1
def baseL (ly : List (Int × Int)) : Int := maxL 0 (ly.map (·.2))
def dueE (rs ly : List (Int × Int)) : Int := max (way rs ly (full rs)).1 (baseL ly)
end
end Lf

set_option linter.all false
namespace Lf
open PySem
def cst : Nat → Nat
  | 0 => 1
  | m + 1 => 1 + (m + 1) * cst m
abbrev Ent := Int × List Nat
def plW (pl : List Ent) : Nat := (pl.map fun x => cst x.2.length).sum
def chs (rs ly : List (Int × Int)) (e : Int) (left ks : List Nat) : List Ent := ks.map fun k => (fr ly e (rk rs k) + (rk rs k).1, left.filter fun j => decide (j ≠ k))
structure LI (rs ly : List (Int × Int)) (best : Option Int) (pl : List Ent) : Prop where
  iff : ∀ c : Int, ((∃ b, best = some b ∧ b ≤ c) ∨ ∃ x ∈ pl, ∃ y, Leaf rs ly x.1 x.2 y ∧ max y (baseL ly) ≤ c) ↔ ∃ y, Leaf rs ly 0 (List.range rs.length) y ∧ max y (baseL ly) ≤ c
  ok : ∀ x ∈ pl, (∀ k ∈ x.2, k < rs.length) ∧ x.2.length ≤ rs.length ∧ 0 ≤ x.1 ∧ x.1 ≤ 100000 + ((5 - x.2.length : Nat) : Int) * 2008
  wt : plW pl ≤ 326
def upBest (best : Option Int) (m : Int) : Option Int := match best with
  | none => some m
  | some b => if m < b then some m else some b
section
variable {rs ly : List (Int × Int)}
end
end Lf

set_option linter.all false
namespace Lf
open PySem
section
variable {rs ly : List (Int × Int)}
end
end Lf

set_option linter.all false
namespace Lf
open PySem
section
variable {rs rs' ly : List (Int × Int)}
structure Plc (rs ly : List (Int × Int)) (ps : List Int) : Prop where
  ok : ∀ k, k < rs.length → 0 ≤ pk ps k ∧ pk ps k % (rk rs k).2 = 0 ∧ ∀ s ∈ ly, pk ps k + (rk rs k).1 ≤ s.1 ∨ s.2 ≤ pk ps k
  dis : ∀ k j, k < rs.length → j < rs.length → k ≠ j → pk ps k + (rk rs k).1 ≤ pk ps j ∨ pk ps j + (rk rs j).1 ≤ pk ps k
def Dj (s t : Int × Int) : Prop := s.2 ≤ t.1 ∨ t.2 ≤ s.1
theorem Dj.symm {s t : Int × Int} (h : Dj s t) : Dj t s := Or.symm h
theorem rising_of {us : List (Int × Int)} (h1 : ∀ s ∈ us, 0 ≤ s.1 ∧ s.1 < s.2) (h2 : us.Pairwise fun s t => s.1 ≤ t.1) (h3 : us.Pairwise Dj) : Rising us := by
  refine ⟨h1, ?_⟩
  have h4 := List.Pairwise.and h2 h3
  refine List.Pairwise.imp_of_mem ?_ h4
  intro s t hs ht ⟨a, b⟩
  have := h1 t ht
  rcases b with b | b
  · exact b
  · omega
end
end Lf

set_option maxHeartbeats 4000000
namespace Lf
open PySem L2
def top (i : Nat) : Stmt := PySem.Challenge.pw_laidfields_k14_placings_judged.main.body.getD i (.Pass ⟨0, 0, 0, 0⟩)
abbrev s_is_whole : Stmt := top 1
abbrev s_rounded_up : Stmt := top 2
abbrev s_room_of : Stmt := top 3
abbrev s_rooms_of : Stmt := top 4
abbrev s_greatest_multiple : Stmt := top 5
abbrev s_step_of : Stmt := top 6
abbrev s_room_of_row : Stmt := top 7
abbrev s_room_of_record : Stmt := top 8
abbrev s_places_behind : Stmt := top 9
abbrev s_room_of_choice : Stmt := top 10
abbrev s_chosen_at : Stmt := top 11
abbrev s_is_placing : Stmt := top 13
abbrev s_is_place : Stmt := top 14
abbrev s_share_no_byte : Stmt := top 15
abbrev s_stretches_at : Stmt := top 16
abbrev s_law_cell_at : Stmt := top 18
abbrev s_law_stir : Stmt := top 19
abbrev s_law_deck : Stmt := top 20
abbrev s_law_next : Stmt := top 21
abbrev s_law_names : Stmt := top 22
abbrev s_law_kind : Stmt := top 23
abbrev s_law_up : Stmt := top 24
abbrev s_law_room : Stmt := top 25
abbrev s_law_bounded : Stmt := top 26
abbrev s_law_lying : Stmt := top 27
abbrev s_law_some_kinds : Stmt := top 28
abbrev s_law_least : Stmt := top 29
abbrev s_law_is_placing : Stmt := top 30
abbrev s_law_alike : Stmt := top 31
abbrev s_law_copy : Stmt := top 32
abbrev s_law_laid : Stmt := top 33
abbrev s_law_lists : Stmt := top 34
abbrev s_law : Stmt := top 35
theorem sc_is_whole : FnScope ["thing"] ["thing"] (defScope s_is_whole) := ⟨rfl, rfl, rfl, by decide +kernel, rfl, by decide +kernel, by decide +kernel⟩
theorem sc_rounded_up : FnScope ["number", "m"] ["number", "m"] (defScope s_rounded_up) := ⟨rfl, rfl, rfl, by decide +kernel, rfl, by decide +kernel, by decide +kernel⟩
theorem sc_room_of : FnScope ["kind"] ["kind"] (defScope s_room_of) := ⟨rfl, rfl, rfl, by decide +kernel, rfl, by decide +kernel, by decide +kernel⟩
theorem sc_rooms_of : FnScope ["kinds"] ["kinds"] (defScope s_rooms_of) := ⟨rfl, rfl, rfl, by decide +kernel, rfl, by decide +kernel, by decide +kernel⟩
theorem sc_greatest_multiple : FnScope ["rooms"] ["rooms"] (defScope s_greatest_multiple) := ⟨rfl, rfl, rfl, by decide +kernel, rfl, by decide +kernel, by decide +kernel⟩
theorem sc_step_of : FnScope ["room"] ["room"] (defScope s_step_of) := ⟨rfl, rfl, rfl, by decide +kernel, rfl, by decide +kernel, by decide +kernel⟩
theorem sc_room_of_row : FnScope ["kind", "n", "room"] ["kind", "n"] (defScope s_room_of_row) := ⟨rfl, rfl, rfl, by decide +kernel, rfl, by decide +kernel, by decide +kernel⟩
theorem sc_room_of_record : FnScope ["kinds", "rooms", "multiple", "ends"] ["kinds"] (defScope s_room_of_record) := ⟨rfl, rfl, rfl, by decide +kernel, rfl, by decide +kernel, by decide +kernel⟩
theorem sc_places_behind : FnScope ["rooms", "places", "end", "room", "place"] ["rooms"] (defScope s_places_behind) := ⟨rfl, rfl, rfl, by decide +kernel, rfl, by decide +kernel, by decide +kernel⟩
theorem sc_room_of_choice : FnScope ["kinds", "rooms", "multiple", "greatest"] ["kinds"] (defScope s_room_of_choice) := ⟨rfl, rfl, rfl, by decide +kernel, rfl, by decide +kernel, by decide +kernel⟩
theorem sc_chosen_at : FnScope ["multiple"] ["multiple"] (defScope s_chosen_at) := ⟨rfl, rfl, rfl, by decide +kernel, rfl, by decide +kernel, by decide +kernel⟩
theorem sc_is_placing : FnScope ["kinds", "lying", "places", "rooms"] ["kinds", "lying", "places"] (defScope s_is_placing) := ⟨rfl, rfl, rfl, by decide +kernel, rfl, by decide +kernel, by decide +kernel⟩
theorem sc_is_place : FnScope ["thing", "multiple"] ["thing", "multiple"] (defScope s_is_place) := ⟨rfl, rfl, rfl, by decide +kernel, rfl, by decide +kernel, by decide +kernel⟩
theorem sc_share_no_byte : FnScope ["rising"] ["rising"] (defScope s_share_no_byte) := ⟨rfl, rfl, rfl, by decide +kernel, rfl, by decide +kernel, by decide +kernel⟩
theorem sc_stretches_at : FnScope ["rooms", "places"] ["rooms", "places"] (defScope s_stretches_at) := ⟨rfl, rfl, rfl, by decide +kernel, rfl, by decide +kernel, by decide +kernel⟩
theorem sc_law_cell_at : FnScope ["script", "k"] ["script", "k"] (defScope s_law_cell_at) := ⟨rfl, rfl, rfl, by decide +kernel, rfl, by decide +kernel, by decide +kernel⟩
theorem sc_law_stir : FnScope ["cell", "k", "one"] ["cell", "k"] (defScope s_law_stir) := ⟨rfl, rfl, rfl, by decide +kernel, rfl, by decide +kernel, by decide +kernel⟩
theorem sc_law_deck : FnScope ["cell", "many", "found", "digits", "k", "number"] ["cell", "many"] (defScope s_law_deck) := ⟨rfl, rfl, rfl, by decide +kernel, rfl, by decide +kernel, by decide +kernel⟩
theorem sc_law_next : FnScope ["deck"] ["deck"] (defScope s_law_next) := ⟨rfl, rfl, rfl, by decide +kernel, rfl, by decide +kernel, by decide +kernel⟩
theorem sc_law_names : FnScope ["deck", "many", "start", "names", "k", "letter"] ["deck", "many"] (defScope s_law_names) := ⟨rfl, rfl, rfl, by decide +kernel, rfl, by decide +kernel, by decide +kernel⟩
theorem sc_law_kind : FnScope ["deck", "deep", "way", "kinds"] ["deck", "deep"] (defScope s_law_kind) := ⟨rfl, rfl, rfl, by decide +kernel, rfl, by decide +kernel, by decide +kernel⟩
theorem sc_law_up : FnScope ["number", "m"] ["number", "m"] (defScope s_law_up) := ⟨rfl, rfl, rfl, by decide +kernel, rfl, by decide +kernel, by decide +kernel⟩
theorem sc_law_room : FnScope ["kind", "room", "m", "parts", "sizes", "end", "other"] ["kind"] (defScope s_law_room) := ⟨rfl, rfl, rfl, by decide +kernel, rfl, by decide +kernel, by decide +kernel⟩
theorem sc_law_bounded : FnScope ["deck", "deep", "most", "kind"] ["deck", "deep", "most"] (defScope s_law_bounded) := ⟨rfl, rfl, rfl, by decide +kernel, rfl, by decide +kernel, by decide +kernel⟩
theorem sc_law_lying : FnScope ["deck", "most", "far", "found", "end", "k", "low"] ["deck", "most", "far"] (defScope s_law_lying) := ⟨rfl, rfl, rfl, by decide +kernel, rfl, by decide +kernel, by decide +kernel⟩
theorem sc_law_some_kinds : FnScope ["deck", "most", "room"] ["deck", "most"] (defScope s_law_some_kinds) := ⟨rfl, rfl, rfl, by decide +kernel, rfl, by decide +kernel, by decide +kernel⟩
theorem sc_law_is_placing : FnScope ["sizes", "lying", "places", "laid", "k", "room", "m"] ["sizes", "lying", "places"] (defScope s_law_is_placing) := ⟨rfl, rfl, rfl, by decide +kernel, rfl, by decide +kernel, by decide +kernel⟩
theorem sc_law_copy : FnScope ["thing"] ["thing"] (defScope s_law_copy) := ⟨rfl, rfl, rfl, by decide +kernel, rfl, by decide +kernel, by decide +kernel⟩
theorem sc_law_laid : FnScope ["deck", "sizes", "lying", "left", "places", "end", "k", "room", "m", "low", "high"] ["deck", "sizes", "lying"] (defScope s_law_laid) := ⟨rfl, rfl, rfl, by decide +kernel, rfl, by decide +kernel, by decide +kernel⟩
theorem sc_law_lists : FnScope ["deck", "sizes", "lying", "places", "far", "lists", "turn", "at", "room", "m", "other", "some", "one", "turned"] ["deck", "sizes", "lying", "places"] (defScope s_law_lists) := ⟨rfl, rfl, rfl, by decide +kernel, rfl, by decide +kernel, by decide +kernel⟩
theorem sc_law : FnScope ["script", "k", "deck", "lying", "kinds", "sizes", "some", "handed", "found"] ["script"] (defScope s_law) := ⟨rfl, rfl, rfl, by decide +kernel, rfl, by decide +kernel, by decide +kernel⟩

def rdt (r : Int × Int) : Dt := .tup [.int r.1, .int r.2]
theorem rooms_at {H : Hp} {rs : List (Int × Int)} {vs : List V} {i : Nat} {x : V} (h : IsDs H (rs.map rdt) vs) (e : vs[i]? = some x) : ∃ r p, rs[i]? = some r ∧ x = .ref p ∧ H p = some (.tup [.int r.1, .int r.2]) := by
  obtain ⟨d, a, b⟩ := h.get e
  rw [List.getElem?_map] at a
  cases q : rs[i]? with
  | none => rw [q] at a; cases a
  | some r =>
    rw [q] at a
    cases a
    obtain ⟨p, ws, e1, e2, v1, r1, e3, e4, v2, r2, e5, e6, e7⟩ := b
    cases e4
    cases e6
    cases e7
    subst e5
    subst e3
    exact ⟨r, p, rfl, e1, e2⟩
theorem take_snoc {α : Type} {l : List α} {i : Nat} {x : α} (h : l[i]? = some x) : l.take (i + 1) = l.take i ++ [x] := by
  rw [List.take_succ, h]
  rfl
theorem bnd12 {n : Nat} (h : n ≤ 12) : bnd n < 2 ^ 150 := Int.lt_of_le_of_lt (bnd_mono h) (by decide)
def spRU : Sp := fun vs H Q _ => ∃ n m : Int, vs = [.int n, .int m] ∧ 0 ≤ n ∧ n < 2 ^ 200 ∧ 0 < m ∧ m < 2 ^ 200 ∧ Q (.int (up n m)) H
def spSO : Sp := fun vs H Q _ => ∃ (p : Addr) (n m : Int), vs = [.ref p] ∧ H p = some (.tup [.int n, .int m]) ∧ 0 ≤ n ∧ n < 2 ^ 200 ∧ 0 < m ∧ m < 2 ^ 200 ∧ Q (.int (up n m)) H
def spCA : Sp := fun vs H Q _ => ∃ m : Int, vs = [.int m] ∧ 0 < m ∧ m < 2 ^ 200 ∧ Q (.int (up 1 m)) H
def spGM : Sp := fun vs H Q _ => ∃ (a : Addr) (ws : List V) (rs : List (Int × Int)), vs = [.ref a] ∧ H a = some (.lst ws) ∧ IsDs H (rs.map rdt) ws ∧ rs.length ≤ 10 ∧ (∀ r ∈ rs, 1 ≤ r.2) ∧
  ∀ H', Same H H' → Q (.int (maxL 1 (rs.map (·.2)))) H'
def spPB : Sp := fun vs H Q _ => ∃ (a : Addr) (ws : List V) (rs : List (Int × Int)), vs = [.ref a] ∧ H a = some (.lst ws) ∧ IsDs H (rs.map rdt) ws ∧ rs.length ≤ 10 ∧ (∀ r ∈ rs, Bd (2 ^ 150) r) ∧
  ∀ l H', Same H H' → H' l = some (.lst ((plcs 0 rs).map V.int)) → Q (.ref l) H'
def spRO (n : Nat) : Sp := fun vs H Q _ => ∃ (kd : Kd) (v : V), vs = [v] ∧ IsD H kd.dt v ∧ kd.Ok ∧ kd.deep ≤ n ∧ n ≤ 12 ∧ ∀ p H', Same H H' → H' p = some (.tup [.int kd.rm.1, .int kd.rm.2]) → Q (.ref p) H'
def spRS (n : Nat) : Sp := fun vs H Q _ => ∃ (a : Addr) (ws : List V) (ks : List Kd), vs = [.ref a] ∧ H a = some (.lst ws) ∧ IsDs H (dtK ks) ws ∧ okK ks ∧ deepK ks ≤ n ∧ ks.length ≤ 10 ∧ n ≤ 12 ∧
  ∀ l zs H', Same H H' → H' l = some (.lst zs) → IsDs H' ((rmK ks).map rdt) zs → Q (.ref l) H'
def spRR (n : Nat) : Sp := fun vs H Q _ => ∃ (kd : Kd) (v : V) (m : Int), vs = [v, .int m] ∧ IsD H kd.dt v ∧ kd.Ok ∧ kd.deep ≤ n ∧ n ≤ 12 ∧ 0 ≤ m ∧ m ≤ 100 ∧ ∀ p H', Same H H' → H' p = some (.tup [.int (m * up kd.rm.1 kd.rm.2), .int kd.rm.2]) → Q (.ref p) H'
def spRL (f : List (Int × Int) → Int × Int) (n : Nat) : Sp := fun vs H Q _ => ∃ (a : Addr) (ws : List V) (ks : List Kd), vs = [.ref a] ∧ H a = some (.lst ws) ∧ IsDs H (dtK ks) ws ∧ okK ks ∧ deepK ks ≤ n ∧ ks.length ≤ 10 ∧ n ≤ 12 ∧
  ∀ p H', Same H H' → H' p = some (.tup [.int (f (rmK ks)).1, .int (f (rmK ks)).2]) → Q (.ref p) H'
section
variable {P : Program} {w : World} {K : PySem.W.Frag} {mg : Str → Option Value} {base : Heap} {f g fRU fGM fPB fRS fRO fRR fRC fRH fSO fCA : Addr} {fd gd dRU dGM dPB dRS dRO dRR dRC dRH dSO dCA : FuncData} {n j : Nat}
theorem ok_ru (F : Fun K "rounded_up" "rounded_up" s_rounded_up f fd) : FnOk P w K mg base CX0 1 f fd ["number", "m"] spRU := by
  refine F.ok sc_rounded_up (fun vs H Q E h => ?_) (fun cdv A outer s H vs Q E hr h => ?_)
  · obtain ⟨n, m, rfl, _⟩ := h
    rfl
  obtain ⟨n, m, rfl, h0, h1, h2, h3, q⟩ := h
  refine ⟨_, pss_one (ps_ret (pe_op op_mulB (pe_op op_fdivB (pe_op op_sub (pe_op op_add (pv 0) (pv 1)) pe_int) (pv 1)) (pv 1))), ?_⟩
  have d0 : 0 ≤ (n + m - 1) / m := Int.ediv_nonneg (by omega) (by omega)
  have d1 : (n + m - 1) / m ≤ n + m - 1 := Int.ediv_le_self m (by omega)
  refine ⟨_, rfl, _, rfl, _, _, rfl, rfl, _, _, rfl, rfl, _, rfl, _, _, rfl, rfl, ⟨h2, by omega⟩, _, rfl, _, _, rfl, rfl, ⟨?_, ?_⟩, q⟩
  · generalize (n + m - 1) / m = z at d0 d1
    omega
  · omega
theorem ok_so (F : Fun K "step_of" "step_of" s_step_of f fd) (GRU : FnOk P w K mg base CX0 1 fRU dRU ["number", "m"] spRU) (bRU : Binds K dRU ["number", "m"] []) (kRU : PySem.W.keepIn K (.ref fRU) = true) (mRU : mg "rounded_up" = some (.ref fRU)) :
    FnOk P w K mg base CX0 2 f fd ["room"] spSO := by
  refine F.ok sc_step_of (fun vs H Q E h => ?_) (fun cdv A outer s H vs Q E hr h => ?_)
  · obtain ⟨p, n, m, rfl, _⟩ := h
    rfl
  obtain ⟨p, n, m, rfl, hp, h0, h1, h2, h3, q⟩ := h
  refine ⟨_, pss_one (ps_ret (pe_call GRU (hr.mono (by omega)) rfl mRU kRU bRU .nil pass0 (pa_cons (pe_ix ix_tup (pv 0) pe_int (fun _ _ => rfl)) (pa_cons (pe_ix ix_tup (pv 0) pe_int (fun _ _ => rfl)) pa_nil)))), ?_⟩
  exact ⟨_, rfl, p, _, _, _, rfl, rfl, SqT.of hp, rfl, _, rfl, p, _, _, _, rfl, rfl, SqT.of hp, rfl, n, m, rfl, h0, h1, h2, h3, q⟩
theorem ok_ca (F : Fun K "chosen_at" "chosen_at" s_chosen_at f fd) (GRU : FnOk P w K mg base CX0 1 fRU dRU ["number", "m"] spRU) (bRU : Binds K dRU ["number", "m"] []) (kRU : PySem.W.keepIn K (.ref fRU) = true) (mRU : mg "rounded_up" = some (.ref fRU)) :
    FnOk P w K mg base CX0 2 f fd ["multiple"] spCA := by
  refine F.ok sc_chosen_at (fun vs H Q E h => ?_) (fun cdv A outer s H vs Q E hr h => ?_)
  · obtain ⟨m, rfl, _⟩ := h
    rfl
  obtain ⟨m, rfl, h2, h3, q⟩ := h
  refine ⟨_, pss_one (ps_ret (pe_call GRU (hr.mono (by omega)) rfl mRU kRU bRU .nil pass0 (pa_cons pe_int (pa_cons (pv 0) pa_nil)))), ?_⟩
  exact ⟨_, rfl, 1, m, rfl, by decide, by decide, h2, h3, q⟩
theorem ok_gm (F : Fun K "greatest_multiple" "greatest_multiple" s_greatest_multiple f fd) (m_max : mg "max" = none) : FnOk P w K mg base CX0 1 f fd ["rooms"] spGM := by
  refine F.ok sc_greatest_multiple (fun vs H Q E h => ?_) (fun cdv A outer s H vs Q E hr h => ?_)
  · obtain ⟨a, ws, rs, rfl, _⟩ := h
    rfl
  obtain ⟨a, ws, rs, rfl, ha, hd, hl, h1, q⟩ := h
  have hlw : ws.length = rs.length := by rw [hd.len, List.length_map]
  refine ⟨_, (pss_one (ps_ret (pe_callBK (call_maxD rfl) rfl m_max bt_max (pa_cons (pe_comp (dsc := defScope s_greatest_multiple) (N := ["rooms"]) (tgs := ["room"]) (outs := []) (N' := ["room"]) ⟨rfl, by decide +kernel, by decide +kernel, by decide +kernel, rfl, by decide +kernel, by decide +kernel, by decide +kernel⟩ (pi_list (pv 0)) (fun _ _ _ _ _ => (pg_name (i := 0) (show (["room"] : List Str).Nodup by decide +kernel) rfl (Or.inl rfl) (.inr rfl))) (tgt_name (by decide)) (fun _ _ _ _ _ => pcs_nil) (fun _ _ _ _ _ => (pe_ix (ix_tupK K) (pv 0) pe_int (fun _ _ => rfl)))) pa_nil) (pk_cons pe_int pk_nil)))), ?_⟩
  refine ⟨_, rfl, a, rfl, ⟨_, SqL.of ha⟩, ?_⟩
  refine comp_list (xs := ws) (fun i acc H' => Same H H' ∧ acc = (rs.take i).map fun r => V.int r.2) (by omega) ⟨Same.refl _, rfl⟩ (fun i acc H' hi ⟨e, ea⟩ => ⟨SqL.of (e _ _ ha), by rw [ea, List.length_map, List.length_take]; omega⟩) (fun i x acc H' hx ⟨e, ea⟩ => ?_) (fun acc H' ⟨e, ea⟩ l hn => ?_)
  · obtain ⟨r, p, er, rfl, hp⟩ := rooms_at hd hx
    refine nameYes ?_
    refine ⟨_, rfl, p, _, _, _, rfl, rfl, SqT.of (e _ _ hp), rfl, e, ?_⟩
    rw [ea, take_snoc er, List.map_append]
    rfl
  · rw [hlw, List.take_length] at ea
    refine ⟨l, rs.map (·.2), 1, rfl, rfl, SqL.of (by rw [upd_same, ea, List.map_map]; rfl), fun en => ?_, fun M hM hle => ?_⟩
    · rw [en] at q
      exact q _ (e.trans (same_new hn _))
    · obtain ⟨r, hr', rfl⟩ := List.mem_map.mp hM
      rw [maxL_is (d := 1) hM (h1 r hr') hle]
      exact q _ (e.trans (same_new hn _))
theorem ok_pb (F : Fun K "places_behind" "places_behind" s_places_behind f fd) (GRU : FnOk P w K mg base CX0 1 fRU dRU ["number", "m"] spRU) (bRU : Binds K dRU ["number", "m"] []) (kRU : PySem.W.keepIn K (.ref fRU) = true) (mRU : mg "rounded_up" = some (.ref fRU)) :
    FnOk P w K mg base CX0 2 f fd ["rooms"] spPB := by
  refine F.ok sc_places_behind (fun vs H Q E h => ?_) (fun cdv A outer s H vs Q E hr h => ?_)
  · obtain ⟨a, ws, rs, rfl, _⟩ := h
    rfl
  obtain ⟨a, ws, rs, rfl, ha, hd, hl, h1, q⟩ := h
  have hlw : ws.length = rs.length := by rw [hd.len, List.length_map]
  refine ⟨_, (pss_cons (ps_set (i := 1) sc_places_behind.nd rfl (Or.inl rfl) (pe_lst pa_nil))
    (pss_cons (ps_set (i := 2) sc_places_behind.nd rfl (Or.inl rfl) pe_int)
    (pss_cons (ps_for PassesOwn.never rfl (pi_list (pv 0)) (pg_name (i := 3) sc_places_behind.nd rfl (Or.inl rfl)) (pss_cons (ps_set (i := 4) sc_places_behind.nd rfl (Or.inl rfl) (pe_call GRU (hr.mono (by omega)) rfl mRU kRU bRU .nil pass0 (pa_cons (pv 2) (pa_cons (pe_ix ix_tup (pv 3) pe_int (fun _ _ => rfl)) pa_nil))))
    (pss_cons (ps_expr (pe_bm PySem.F.plainAttrs_list PySem.F.slot_list_append PySem.F.type_list_append mt_append (pv 1) (pa_cons (pv 4) pa_nil)))
    (pss_one (ps_set (i := 2) sc_places_behind.nd rfl (Or.inl rfl) (pe_op op_add (pv 4) (pe_ix ix_tup (pv 3) pe_int (fun _ _ => rfl))))))))
    (pss_one (ps_ret (pv 1)))))), ?_⟩
  refine ⟨lists3 0 (by decide), fun l0 n0 => ?_⟩
  have k0 : ∀ (o : HO) (H' : Hp), Same H H' → Same H (upd H' l0 o) := fun o H' e b u hb => by rw [upd_ne (ne_of_none hb n0)]; exact e b u hb
  refine ⟨_, rfl, a, rfl, ⟨_, SqL.of ((same_new n0 _) _ _ ha)⟩, ?_⟩
  refine for_list (xs := ws) (fun i σ H' => ∃ y3 y4, σ = [some (.ref a), some (.ref l0), some (.int (lastEnd 0 (rs.take i))), y3, y4] ∧ Same H H' ∧ H' l0 = some (.lst ((plcs 0 (rs.take i)).map V.int))) ⟨_, _, rfl, same_new n0 _, upd_same⟩
    (fun i σ H' _ ⟨y3, y4, es, e, e0⟩ => SqL.of (e _ _ ha)) (fun i x σ H' hx ⟨y3, y4, es, e, e0⟩ => ?_) (fun σ H' ⟨y3, y4, es, e, e0⟩ => ?_)
  · subst es
    obtain ⟨r, p, er, rfl, hp⟩ := rooms_at hd hx
    obtain ⟨b0, b1, b2, b3⟩ := h1 r (List.mem_of_getElem? er)
    have bt : ∀ s ∈ rs.take i, Bd (2 ^ 150) s := fun s hs => h1 s (List.mem_of_mem_take hs)
    obtain ⟨c0, c1⟩ := lastEnd_le (e := 0) (by omega) bt
    have c2 : ((rs.take i).length : Int) * (2 ^ 150 + 8) ≤ 10 * (2 ^ 150 + 8) := Int.mul_le_mul_of_nonneg_right (by rw [List.length_take]; omega) (by decide)
    refine ⟨_, rfl, _, rfl, p, _, _, _, rfl, rfl, SqT.of (e _ _ hp), rfl, _, _, rfl, c0, by omega, by omega, by omega, ?_⟩
    refine ⟨_, rfl, .inl ⟨rfl, _, SqL.of e0⟩, _, rfl, l0, _, _, rfl, rfl, e0, ?_, ?_⟩
    · rw [List.length_map, plcs_length, List.length_take]
      exact small1000 (by omega)
    refine ⟨_, rfl, _, rfl, p, _, _, _, rfl, rfl, SqT.of ((k0 _ _ e) _ _ hp), rfl, _, _, rfl, rfl, ?_⟩
    refine ⟨some (.ref p), some (.int (up (lastEnd 0 (rs.take i)) r.2)), ?_, k0 _ _ e, ?_⟩
    · rw [take_snoc er, lastEnd_snoc]
      rfl
    · rw [upd_same, take_snoc er, plcs_snoc, List.map_append]
      rfl
  · rw [hlw, List.take_length] at es e0
    subst es
    exact ⟨_, rfl, q l0 H' e e0⟩

theorem kinds_at {H : Hp} {x : V} : ∀ {ks : List Kd} {ws : List V} {i : Nat}, IsDs H (dtK ks) ws → ws[i]? = some x → ∃ k, ks[i]? = some k ∧ IsD H k.dt x
  | [], _, _, h, e => by cases (show _ = [] from h); simp at e
  | k :: r, _, 0, ⟨u, vr, h1, h2, h3⟩, e => by subst h1; simp at e; subst e; exact ⟨k, rfl, h2⟩
  | k :: r, _, i + 1, ⟨u, vr, h1, h2, h3⟩, e => by subst h1; obtain ⟨d', a, b⟩ := kinds_at (i := i) h3 (by simpa using e); exact ⟨d', by simpa using a, b⟩
theorem ok_at : ∀ {ks : List Kd} {i : Nat} {k : Kd}, okK ks → ks[i]? = some k → k.Ok ∧ k.deep ≤ deepK ks
  | [], _, _, _, e => by simp at e
  | k' :: r, 0, k, h, e => by simp at e; subst e; exact ⟨h.1, Nat.le_max_left _ _⟩
  | k' :: r, i + 1, k, h, e => by obtain ⟨a, b⟩ := ok_at (i := i) h.2 (by simpa using e); exact ⟨a, Nat.le_trans b (Nat.le_max_right _ _)⟩
theorem rmK_at : ∀ {ks : List Kd} {i : Nat} {k : Kd}, ks[i]? = some k → (rmK ks)[i]? = some k.rm
  | [], _, _, e => by simp at e
  | k' :: r, 0, k, e => by simp at e; subst e; rfl
  | k' :: r, i + 1, k, e => by show (rmK r)[i]? = _; exact rmK_at (by simpa using e)
theorem dtK_len : ∀ (ks : List Kd), (dtK ks).length = ks.length
  | [] => rfl
  | k :: r => by show (dtK r).length + 1 = _; rw [dtK_len r]; rfl
theorem bdK12 {ks : List Kd} (h : okK ks) (hd : deepK ks ≤ n) (hn : n ≤ 12) : ∀ r ∈ rmK ks, Bd (2 ^ 150) r := fun r hr => (bdK ks h r hr).mono (Int.le_of_lt (bnd12 (Nat.le_trans hd hn)))
theorem bd12 {k : Kd} (h : k.Ok) (hd : k.deep ≤ n) (hn : n ≤ 12) : Bd (2 ^ 150) k.rm := (Kd.bd k h).mono (Int.le_of_lt (bnd12 (Nat.le_trans hd hn)))
theorem ok_rs (F : Fun K "rooms_of" "rooms_of" s_rooms_of f fd) (GRO : FnOk P w K mg base CX0 j fRO dRO ["kind"] (spRO n)) (bRO : Binds K dRO ["kind"] []) (kRO : PySem.W.keepIn K (.ref fRO) = true) (mRO : mg "room_of" = some (.ref fRO)) :
    FnOk P w K mg base CX0 (j + 1) f fd ["kinds"] (spRS n) := by
  refine F.ok sc_rooms_of (fun vs H Q E h => ?_) (fun cdv A outer s H vs Q E hr h => ?_)
  · obtain ⟨a, ws, ks, rfl, _⟩ := h
    rfl
  obtain ⟨a, ws, ks, rfl, ha, hd, hk, hdp, hl, hn, q⟩ := h
  have hlw : ws.length = ks.length := by rw [hd.len, dtK_len]
  refine ⟨_, (pss_one (ps_ret (pe_comp (dsc := defScope s_rooms_of) (N := ["kinds"]) (tgs := ["kind"]) (outs := []) (N' := ["kind"]) ⟨rfl, by decide +kernel, by decide +kernel, by decide +kernel, rfl, by decide +kernel, by decide +kernel, by decide +kernel⟩ (pi_list (pv 0)) (fun _ _ _ _ _ => (pg_name (i := 0) (show (["kind"] : List Str).Nodup by decide +kernel) rfl (Or.inl rfl) (.inr rfl))) (tgt_name (by decide)) (fun _ _ _ _ _ => pcs_nil) (fun _ _ _ _ _ => (pe_call GRO hr rfl mRO kRO bRO .nil pass0 (pa_cons (pv 0) pa_nil)))))), ?_⟩
  refine ⟨_, rfl, a, rfl, ⟨_, SqL.of ha⟩, ?_⟩
  refine comp_list (xs := ws) (fun i acc H' => Same H H' ∧ IsDs H' (((rmK ks).take i).map rdt) acc) (by omega) ⟨Same.refl _, rfl⟩ (fun i acc H' hi ⟨e, ea⟩ => ⟨SqL.of (e _ _ ha), by rw [ea.len, List.length_map, List.length_take]; omega⟩) (fun i x acc H' hx ⟨e, ea⟩ => ?_) (fun acc H' ⟨e, ea⟩ l hn' => ?_)
  · obtain ⟨k, ek, hkx⟩ := kinds_at hd hx
    obtain ⟨ok, dk⟩ := ok_at hk ek
    refine nameYes ?_
    refine ⟨_, rfl, k, x, rfl, hkx.same e, ok, by omega, hn, fun p H'' e2 hp => ⟨e.trans e2, ?_⟩⟩
    rw [take_snoc (rmK_at ek), List.map_append]
    exact (ea.same e2).snoc (show IsD H'' (rdt k.rm) (.ref p) from ⟨p, _, rfl, hp, _, _, rfl, rfl, _, _, rfl, rfl, rfl⟩)
  · rw [hlw, ← lenK, List.take_length] at ea
    exact q l acc _ (e.trans (same_new hn' _)) upd_same (ea.same (same_new hn' _))
theorem ok_rr (F : Fun K "room_of_row" "room_of_row" s_room_of_row f fd) (GRO : FnOk P w K mg base CX0 j fRO dRO ["kind"] (spRO n)) (bRO : Binds K dRO ["kind"] []) (kRO : PySem.W.keepIn K (.ref fRO) = true) (mRO : mg "room_of" = some (.ref fRO))
    (GSO : FnOk P w K mg base CX0 2 fSO dSO ["room"] spSO) (bSO : Binds K dSO ["room"] []) (kSO : PySem.W.keepIn K (.ref fSO) = true) (mSO : mg "step_of" = some (.ref fSO)) (hj : 2 ≤ j) :
    FnOk P w K mg base CX0 (j + 1) f fd ["kind", "n"] (spRR n) := by
  refine F.ok sc_room_of_row (fun vs H Q E h => ?_) (fun cdv A outer s H vs Q E hr h => ?_)
  · obtain ⟨kd, v, m, rfl, _⟩ := h
    rfl
  obtain ⟨kd, v, m, rfl, hv, hk, hdp, hn, h0, h1, q⟩ := h
  obtain ⟨b0, b1, b2, b3⟩ := bd12 hk hdp hn
  obtain ⟨u1, u2⟩ := up_bounds (n := kd.rm.1) (m := kd.rm.2) (by omega)
  refine ⟨_, (pss_cons (ps_set (i := 2) sc_room_of_row.nd rfl (Or.inl rfl) (pe_call GRO hr rfl mRO kRO bRO .nil pass0 (pa_cons (pv 0) pa_nil)))
    (pss_one (ps_ret (pe_tup (pa_cons (pe_op op_mulB (pv 1) (pe_call GSO (hr.mono hj) rfl mSO kSO bSO .nil pass0 (pa_cons (pv 2) pa_nil))) (pa_cons (pe_ix ix_tup (pv 2) pe_int (fun _ _ => rfl)) pa_nil)))))), ?_⟩
  refine ⟨_, rfl, kd, v, rfl, hv, hk, hdp, hn, fun p H1 e1 hp => ?_⟩
  refine ⟨_, rfl, _, rfl, p, _, _, rfl, hp, b0, by omega, by omega, by omega, _, _, rfl, rfl, ⟨by omega, by omega⟩, _, rfl, p, _, _, _, rfl, rfl, SqT.of hp, rfl, lists3 2 (by decide), fun p2 n2 => ?_⟩
  exact q p2 _ (e1.trans (same_new n2 _)) upd_same
theorem ok_rc (F : Fun K "room_of_record" "room_of_record" s_room_of_record f fd) (GRS : FnOk P w K mg base CX0 j fRS dRS ["kinds"] (spRS n)) (bRS : Binds K dRS ["kinds"] []) (kRS : PySem.W.keepIn K (.ref fRS) = true) (mRS : mg "rooms_of" = some (.ref fRS))
    (GGM : FnOk P w K mg base CX0 1 fGM dGM ["rooms"] spGM) (bGM : Binds K dGM ["rooms"] []) (kGM : PySem.W.keepIn K (.ref fGM) = true) (mGM : mg "greatest_multiple" = some (.ref fGM))
    (GPB : FnOk P w K mg base CX0 2 fPB dPB ["rooms"] spPB) (bPB : Binds K dPB ["rooms"] []) (kPB : PySem.W.keepIn K (.ref fPB) = true) (mPB : mg "places_behind" = some (.ref fPB))
    (GRU : FnOk P w K mg base CX0 1 fRU dRU ["number", "m"] spRU) (bRU : Binds K dRU ["number", "m"] []) (kRU : PySem.W.keepIn K (.ref fRU) = true) (mRU : mg "rounded_up" = some (.ref fRU)) (m_max : mg "max" = none) (m_zip : mg "zip" = none) (hj : 2 ≤ j) :
    FnOk P w K mg base CX0 (j + 1) f fd ["kinds"] (spRL rcdRm n) := by
  refine F.ok sc_room_of_record (fun vs H Q E h => ?_) (fun cdv A outer s H vs Q E hr h => ?_)
  · obtain ⟨a, ws, ks, rfl, _⟩ := h
    rfl
  obtain ⟨a, ws, ks, rfl, ha, hd, hk, hdp, hl, hn, q⟩ := h
  have hb := bdK12 hk hdp hn
  generalize hrs : rmK ks = rs at hb q
  have hlr : rs.length ≤ 10 := by rw [← hrs, lenK]; exact hl
  refine ⟨_, (pss_cons (ps_set (i := 1) sc_room_of_record.nd rfl (Or.inl rfl) (pe_call GRS hr rfl mRS kRS bRS .nil pass0 (pa_cons (pv 0) pa_nil)))
    (pss_cons (ps_set (i := 2) sc_room_of_record.nd rfl (Or.inl rfl) (pe_call GGM (hr.mono (by omega)) rfl mGM kGM bGM .nil pass0 (pa_cons (pv 1) pa_nil)))
    (pss_cons (ps_setC (i := 3) sc_room_of_record.nd rfl rfl (dsc := defScope s_room_of_record) (N := ["kinds", "rooms", "multiple", "ends"]) (tgs := ["place", "room"]) (outs := []) (N' := ["place", "room"]) ⟨rfl, by decide +kernel, by decide +kernel, by decide +kernel, rfl, by decide +kernel, by decide +kernel, by decide +kernel⟩ (pi_zip (t1 := false) (t2 := false) rfl m_zip (pa_cons (pe_call GPB (hr.mono (by omega)) rfl mPB kPB bPB .nil pass0 (pa_cons (pv 1) pa_nil)) (pa_cons (pv 1) pa_nil))) (fun _ _ _ _ _ => (pg_tupK K (n := 2) rfl rfl (pgs_cons (pg_name (i := 0) (show (["place", "room"] : List Str).Nodup by decide +kernel) rfl (Or.inl rfl) (.inr rfl)) (pgs_cons (pg_name (i := 1) (show (["place", "room"] : List Str).Nodup by decide +kernel) rfl (Or.inl rfl) (.inr rfl)) pgs_nil)))) (tgt_tup (tgts_name (by decide) (tgts_name (by decide) tgts_nil tmono_nil) (tmono_name tmono_nil))) (fun _ _ _ _ _ => pcs_nil) (fun _ _ _ _ _ => (pe_op op_add (pv 0) (pe_ix (ix_tupK K) (pv 1) pe_int (fun _ _ => rfl)))))
    (pss_one (ps_ret (pe_tup (pa_cons (pe_call GRU (hr.mono (by omega)) rfl mRU kRU bRU .nil pass0 (pa_cons (pe_callBK (call_maxD rfl) rfl m_max bt_max (pa_cons (pv 3) pa_nil) (pk_cons pe_int pk_nil)) (pa_cons (pv 2) pa_nil))) (pa_cons (pv 2) pa_nil)))))))), ?_⟩
  refine ⟨_, rfl, a, ws, ks, rfl, ha, hd, hk, hdp, hl, hn, fun l zs H1 e1 hz hzs => ?_⟩
  rw [hrs] at hzs
  refine ⟨_, rfl, l, zs, rs, rfl, hz, hzs, hlr, fun r hr => (hb r hr).2.2.1, fun H2 e2 => ?_⟩
  have hz2 := e2 _ _ hz
  have hzs2 := hzs.same e2
  refine ⟨_, rfl, l, zs, rs, rfl, hz2, hzs2, hlr, hb, fun l2 H3 e3 hp => ?_⟩
  have hz3 := e3 _ _ hz2
  have hzs3 := hzs2.same e3
  have hlz : zs.length = rs.length := by rw [hzs.len, List.length_map]
  have hlp : ((plcs 0 rs).map V.int).length = rs.length := by rw [List.length_map, plcs_length]
  have hle : (ends 0 rs).length = rs.length := by rw [ends_zip, List.length_map, List.length_zip, plcs_length]; omega
  obtain ⟨c0, c1⟩ := lastEnd_le (e := 0) (by omega) hb
  have c2 : (rs.length : Int) * (2 ^ 150 + 8) ≤ 10 * (2 ^ 150 + 8) := Int.mul_le_mul_of_nonneg_right (by omega) (by decide)
  obtain ⟨x0, x1⟩ := mx_bd hb
  refine ⟨_, rfl, l2, l, rfl, ⟨_, SqL.of hp⟩, ⟨_, SqL.of hz3⟩, ?_⟩
  refine comp_zip (t1 := false) (t2 := false) (xs := (plcs 0 rs).map V.int) (ys := zs) (fun i acc H' => Same H3 H' ∧ acc = ((ends 0 rs).take i).map V.int) (by omega) (by omega) ⟨Same.refl _, rfl⟩
    (fun i acc H' hi ⟨e, ea⟩ => ⟨SqL.of (e _ _ hp), SqL.of (e _ _ hz3), by rw [ea, List.length_map, List.length_take]; omega⟩) (fun i x y p acc H' hx hy ⟨e, ea⟩ hpn => ?_) (fun acc H' ⟨e, ea⟩ l3 hn3 => ?_)
  · obtain ⟨r, p2, er, rfl, hp2⟩ := rooms_at hzs3 hy
    rw [List.getElem?_map] at hx
    cases ep : (plcs 0 rs)[i]? with
    | none => rw [ep] at hx; cases hx
    | some pl =>
      rw [ep] at hx
      cases hx
      have en : Same H3 (upd H' p (.tup [.int pl, .ref p2])) := e.trans (same_new hpn _)
      refine ⟨p, _, rfl, SqT.of upd_same, rfl, _, _, rfl, _, _, rfl, rfl, ?_⟩
      refine yesT ?_
      refine ⟨_, rfl, _, rfl, p2, _, _, _, rfl, rfl, SqT.of (en _ _ hp2), rfl, _, _, rfl, rfl, en, ?_⟩
      have ee : (ends 0 rs)[i]? = some (pl + r.1) := by
        rw [ends_zip, List.getElem?_map, (List.getElem?_zip_eq_some (z := (pl, r))).mpr ⟨ep, er⟩]
        rfl
      rw [ea, take_snoc ee, List.map_append]
      rfl
  · rw [hlp, ← hle, List.take_length] at ea
    have e3' : Same H (upd H' l3 (.lst acc)) := ((e1.trans e2).trans (e3.trans e)).trans (same_new hn3 _)
    have fin : ∀ (z : Int), z = lastEnd 0 rs → ∀ {D : VK}, (∀ p H'', Same H H'' → H'' p = some (.tup [.int (rcdRm rs).1, .int (rcdRm rs).2]) → D (.ref p) H'') →
        ∃ n m : Int, [V.int z, V.int (maxL 1 (rs.map (·.2)))] ++ [] = [.int n, .int m] ∧ 0 ≤ n ∧ n < 2 ^ 200 ∧ 0 < m ∧ m < 2 ^ 200 ∧ (∃ v, ([some (V.ref a), some (.ref l), some (.int (maxL 1 (rs.map (·.2)))), some (.ref l3)] : St)[2]? = some (some v) ∧ ([V.int (up n m), v] : List V).length ≤ sizeLine ∧
          ∀ p, (upd H' l3 (.lst acc)) p = none → D (.ref p) (upd (upd H' l3 (.lst acc)) p (.tup [.int (up n m), v]))) := fun z ez D hD => by
      subst ez
      exact ⟨_, _, rfl, c0, by omega, by omega, by omega, _, rfl, lists3 2 (by decide), fun p hp => hD p _ (e3'.trans (same_new hp _)) upd_same⟩
    refine ⟨_, rfl, l3, ends 0 rs, 0, rfl, rfl, SqL.of (by rw [upd_same, ea]), fun en => ?_, fun M hM hle => ?_⟩
    · have : rs = [] := by
        cases rs with
        | nil => rfl
        | cons r t => cases en
      refine ⟨_, rfl, ?_⟩
      exact fin 0 (by rw [this]; rfl) q
    · have hne : rs ≠ [] := fun z => by rw [z] at hM; cases hM
      obtain ⟨t1, t2⟩ := ends_max (e := 0) (fun r hr => ⟨(hb r hr).1, by have := (hb r hr).2.2.1; omega⟩) hne
      refine ⟨_, rfl, ?_⟩
      exact fin M (Int.le_antisymm (t2 M hM) (hle _ t1)) q
theorem ok_rh (F : Fun K "room_of_choice" "room_of_choice" s_room_of_choice f fd) (GRS : FnOk P w K mg base CX0 j fRS dRS ["kinds"] (spRS n)) (bRS : Binds K dRS ["kinds"] []) (kRS : PySem.W.keepIn K (.ref fRS) = true) (mRS : mg "rooms_of" = some (.ref fRS))
    (GGM : FnOk P w K mg base CX0 1 fGM dGM ["rooms"] spGM) (bGM : Binds K dGM ["rooms"] []) (kGM : PySem.W.keepIn K (.ref fGM) = true) (mGM : mg "greatest_multiple" = some (.ref fGM))
    (GCA : FnOk P w K mg base CX0 2 fCA dCA ["multiple"] spCA) (bCA : Binds K dCA ["multiple"] []) (kCA : PySem.W.keepIn K (.ref fCA) = true) (mCA : mg "chosen_at" = some (.ref fCA))
    (GRU : FnOk P w K mg base CX0 1 fRU dRU ["number", "m"] spRU) (bRU : Binds K dRU ["number", "m"] []) (kRU : PySem.W.keepIn K (.ref fRU) = true) (mRU : mg "rounded_up" = some (.ref fRU)) (m_max : mg "max" = none) (hj : 2 ≤ j) :
    FnOk P w K mg base CX0 (j + 1) f fd ["kinds"] (spRL choRm n) := by
  refine F.ok sc_room_of_choice (fun vs H Q E h => ?_) (fun cdv A outer s H vs Q E hr h => ?_)
  · obtain ⟨a, ws, ks, rfl, _⟩ := h
    rfl
  obtain ⟨a, ws, ks, rfl, ha, hd, hk, hdp, hl, hn, q⟩ := h
  have hb := bdK12 hk hdp hn
  generalize hrs : rmK ks = rs at hb q
  have hlr : rs.length ≤ 10 := by rw [← hrs, lenK]; exact hl
  refine ⟨_, (pss_cons (ps_set (i := 1) sc_room_of_choice.nd rfl (Or.inl rfl) (pe_call GRS hr rfl mRS kRS bRS .nil pass0 (pa_cons (pv 0) pa_nil)))
    (pss_cons (ps_set (i := 2) sc_room_of_choice.nd rfl (Or.inl rfl) (pe_call GGM (hr.mono (by omega)) rfl mGM kGM bGM .nil pass0 (pa_cons (pv 1) pa_nil)))
    (pss_cons (ps_set (i := 3) sc_room_of_choice.nd rfl (Or.inl rfl) (pe_callBK (call_maxD rfl) rfl m_max bt_max (pa_cons (pe_comp (dsc := defScope s_room_of_choice) (N := ["kinds", "rooms", "multiple", "greatest"]) (tgs := ["room"]) (outs := []) (N' := ["room"]) ⟨rfl, by decide +kernel, by decide +kernel, by decide +kernel, rfl, by decide +kernel, by decide +kernel, by decide +kernel⟩ (pi_list (pv 1)) (fun _ _ _ _ _ => (pg_name (i := 0) (show (["room"] : List Str).Nodup by decide +kernel) rfl (Or.inl rfl) (.inr rfl))) (tgt_name (by decide)) (fun _ _ _ _ _ => pcs_nil) (fun _ _ _ _ _ => (pe_ix (ix_tupK K) (pv 0) pe_int (fun _ _ => rfl)))) pa_nil) (pk_cons pe_int pk_nil)))
    (pss_one (ps_ret (pe_tup (pa_cons (pe_call GRU (hr.mono (by omega)) rfl mRU kRU bRU .nil pass0 (pa_cons (pe_op op_add (pe_call GCA (hr.mono (by omega)) rfl mCA kCA bCA .nil pass0 (pa_cons (pv 2) pa_nil)) (pv 3)) (pa_cons (pv 2) pa_nil))) (pa_cons (pv 2) pa_nil)))))))), ?_⟩
  refine ⟨_, rfl, a, ws, ks, rfl, ha, hd, hk, hdp, hl, hn, fun l zs H1 e1 hz hzs => ?_⟩
  rw [hrs] at hzs
  refine ⟨_, rfl, l, zs, rs, rfl, hz, hzs, hlr, fun r hr => (hb r hr).2.2.1, fun H2 e2 => ?_⟩
  have hz2 := e2 _ _ hz
  have hzs2 := hzs.same e2
  have hlz : zs.length = rs.length := by rw [hzs.len, List.length_map]
  obtain ⟨x0, x1⟩ := mx_bd hb
  obtain ⟨u1, u2⟩ := up_bounds (n := 1) (m := maxL 1 (rs.map (·.2))) (by omega)
  have y0 : 0 ≤ maxL 0 (rs.map (·.1)) := maxL_d _
  have y1 : maxL 0 (rs.map (·.1)) ≤ 2 ^ 150 := maxL_le (by decide) fun z hz => by obtain ⟨r, hr, rfl⟩ := List.mem_map.mp hz; exact (hb r hr).2.1
  refine ⟨_, rfl, l, rfl, ⟨_, SqL.of hz2⟩, ?_⟩
  refine comp_list (xs := zs) (fun i acc H' => Same H2 H' ∧ acc = (rs.take i).map fun r => V.int r.1) (by omega) ⟨Same.refl _, rfl⟩ (fun i acc H' hi ⟨e, ea⟩ => ⟨SqL.of (e _ _ hz2), by rw [ea, List.length_map, List.length_take]; omega⟩) (fun i x acc H' hx ⟨e, ea⟩ => ?_) (fun acc H' ⟨e, ea⟩ l3 hn3 => ?_)
  · obtain ⟨r, p, er, rfl, hp⟩ := rooms_at hzs2 hx
    refine nameYes ?_
    refine ⟨_, rfl, p, _, _, _, rfl, rfl, SqT.of (e _ _ hp), rfl, e, ?_⟩
    rw [ea, take_snoc er, List.map_append]
    rfl
  · rw [hlz, List.take_length] at ea
    have e3' : Same H (upd H' l3 (.lst acc)) := (e1.trans e2).trans (e.trans (same_new hn3 _))
    have key : ∀ M, M = maxL 0 (rs.map (·.1)) → ∃ v, ([some (V.ref a), some (.ref l), some (.int (maxL 1 (rs.map (·.2)))), some (.int M)] : St)[2]? = some (some v) ∧ ∃ m : Int, [v] ++ [] = [.int m] ∧ 0 < m ∧ m < 2 ^ 200 ∧
        ∃ v, ([some (V.ref a), some (.ref l), some (.int (maxL 1 (rs.map (·.2)))), some (.int M)] : St)[3]? = some (some v) ∧ ∃ i j, V.int (up 1 m) = .int i ∧ v = .int j ∧ ∃ v, ([some (V.ref a), some (.ref l), some (.int (maxL 1 (rs.map (·.2)))), some (.int M)] : St)[2]? = some (some v) ∧
          ∃ n m : Int, [V.int (i + j), v] ++ [] = [.int n, .int m] ∧ 0 ≤ n ∧ n < 2 ^ 200 ∧ 0 < m ∧ m < 2 ^ 200 ∧ ∃ v, ([some (V.ref a), some (.ref l), some (.int (maxL 1 (rs.map (·.2)))), some (.int M)] : St)[2]? = some (some v) ∧ ([V.int (up n m), v] : List V).length ≤ sizeLine ∧
            ∀ p, (upd H' l3 (.lst acc)) p = none → Q (.ref p) (upd (upd H' l3 (.lst acc)) p (.tup [.int (up n m), v])) := fun M eM => by
      subst eM
      exact ⟨_, rfl, _, rfl, by omega, by omega, _, rfl, _, _, rfl, rfl, _, rfl, _, _, rfl, by omega, by omega, by omega, by omega, _, rfl, lists3 2 (by decide), fun p hp => q p _ (e3'.trans (same_new hp _)) upd_same⟩
    refine ⟨l3, rs.map (·.1), 0, rfl, rfl, SqL.of (by rw [upd_same, ea, List.map_map]; rfl), fun en => ?_, fun M hM hle => ?_⟩
    · exact key 0 (by rw [en]; rfl)
    · obtain ⟨r, hr', rfl⟩ := List.mem_map.mp hM
      exact key _ (maxL_is hM (hb r hr').1 hle)
theorem fields_at {H : Hp} {x : V} : ∀ {fs : List (Str × Kd)} {ws : List V} {i : Nat}, IsDs H (dtF fs) ws → ws[i]? = some x → ∃ f p v, fs[i]? = some f ∧ x = .ref p ∧ H p = some (.tup [.str f.1, v]) ∧ IsD H f.2.dt v
  | [], _, _, h, e => by cases (show _ = [] from h); simp at e
  | k :: r, _, 0, ⟨u, vr, h1, h2, h3⟩, e => by
    subst h1
    simp at e
    subst e
    obtain ⟨p, ys, e1, e2, v1, r1, e3, e4, v2, r2, e5, e6, e7⟩ := h2
    cases e4
    cases e7
    subst e5
    subst e3
    exact ⟨k, p, v2, rfl, e1, e2, e6⟩
  | k :: r, _, i + 1, ⟨u, vr, h1, h2, h3⟩, e => by subst h1; obtain ⟨f, p, v, a, b⟩ := fields_at (i := i) h3 (by simpa using e); exact ⟨f, p, v, by simpa using a, b⟩
theorem dtF_len : ∀ (fs : List (Str × Kd)), (dtF fs).length = fs.length
  | [] => rfl
  | k :: r => by show (dtF r).length + 1 = _; rw [dtF_len r]; rfl
theorem dtK_snoc : ∀ (ks : List Kd) (k : Kd), dtK (ks ++ [k]) = dtK ks ++ [k.dt]
  | [], _ => rfl
  | a :: r, k => by show a.dt :: dtK (r ++ [k]) = _; rw [dtK_snoc r]; rfl
theorem okF_map : ∀ {fs : List (Str × Kd)}, okF fs → okK (fs.map (·.2))
  | [], _ => trivial
  | f :: r, h => ⟨h.1, okF_map h.2⟩
theorem deepF_map : ∀ (fs : List (Str × Kd)), deepK (fs.map (·.2)) = deepF fs
  | [] => rfl
  | f :: r => by show max f.2.deep (deepK (r.map (·.2))) = _; rw [deepF_map r]; rfl
theorem rmF_map : ∀ (fs : List (Str × Kd)), rmK (fs.map (·.2)) = rmF fs
  | [] => rfl
  | f :: r => by show f.2.rm :: rmK (r.map (·.2)) = _; rw [rmF_map r]; rfl
theorem ok_ro (F : Fun K "room_of" "room_of" s_room_of f fd) (GRR : FnOk P w K mg base CX0 j fRR dRR ["kind", "n"] (spRR n)) (bRR : Binds K dRR ["kind", "n"] []) (kRR : PySem.W.keepIn K (.ref fRR) = true) (mRR : mg "room_of_row" = some (.ref fRR))
    (GRC : FnOk P w K mg base CX0 j fRC dRC ["kinds"] (spRL rcdRm n)) (bRC : Binds K dRC ["kinds"] []) (kRC : PySem.W.keepIn K (.ref fRC) = true) (mRC : mg "room_of_record" = some (.ref fRC))
    (GRH : FnOk P w K mg base CX0 j fRH dRH ["kinds"] (spRL choRm n)) (bRH : Binds K dRH ["kinds"] []) (kRH : PySem.W.keepIn K (.ref fRH) = true) (mRH : mg "room_of_choice" = some (.ref fRH)) :
    FnOk P w K mg base CX0 (j + 1) f fd ["kind"] (spRO (n + 1)) := by
  refine F.ok sc_room_of (fun vs H Q E h => ?_) (fun cdv A outer s H vs Q E hr h => ?_)
  · obtain ⟨kd, v, rfl, _⟩ := h
    rfl
  obtain ⟨kd, v, rfl, hv, hk, hdp, hn, q⟩ := h
  refine ⟨_, (pss_cons (ps_if (pt_cmpR op_eq (pe_ix ix_tup (pv 0) pe_int (fun _ _ => rfl)) pe_str (nomark _)) (pss_one (ps_ret (pe_tup (pa_cons (pe_ix ix_tup (pv 0) pe_int (fun _ _ => rfl)) (pa_cons (pe_ix ix_tup (pv 0) pe_int (fun _ _ => rfl)) pa_nil))))) pss_nil)
    (pss_cons (ps_if (pt_cmpR op_eq (pe_ix ix_tup (pv 0) pe_int (fun _ _ => rfl)) pe_str (nomark _)) (pss_one (ps_ret (pe_call GRR hr rfl mRR kRR bRR .nil pass0 (pa_cons (pe_ix ix_tup (pv 0) pe_int (fun _ _ => rfl)) (pa_cons (pe_ix ix_tup (pv 0) pe_int (fun _ _ => rfl)) pa_nil))))) pss_nil)
    (pss_cons (ps_if (pt_cmpR op_eq (pe_ix ix_tup (pv 0) pe_int (fun _ _ => rfl)) pe_str (nomark _)) (pss_one (ps_ret (pe_call GRC hr rfl mRC kRC bRC .nil pass0 (pa_cons (pe_comp (dsc := defScope s_room_of) (N := ["kind"]) (tgs := ["field"]) (outs := []) (N' := ["field"]) ⟨rfl, by decide +kernel, by decide +kernel, by decide +kernel, rfl, by decide +kernel, by decide +kernel, by decide +kernel⟩ (pi_list (pe_ix ix_tup (pv 0) pe_int (fun _ _ => rfl))) (fun _ _ _ _ _ => (pg_name (i := 0) (show (["field"] : List Str).Nodup by decide +kernel) rfl (Or.inl rfl) (.inr rfl))) (tgt_name (by decide)) (fun _ _ _ _ _ => pcs_nil) (fun _ _ _ _ _ => (pe_ix (ix_tupK K) (pv 0) pe_int (fun _ _ => rfl)))) pa_nil)))) pss_nil)
    (pss_one (ps_ret (pe_call GRH hr rfl mRH kRH bRH .nil pass0 (pa_cons (pe_ix ix_tup (pv 0) pe_int (fun _ _ => rfl)) pa_nil))))))), ?_⟩
  have n1 : ∀ {x y : Str}, (x == y) = false → ¬ (V.str x = V.str y) := fun h => str_ne h
  cases kd with
  | num wd m =>
    obtain ⟨p, ys, rfl, hp, v1, r1, rfl, rfl, v2, r2, rfl, rfl, v3, r3, rfl, rfl, rfl⟩ := hv
    refine ⟨_, rfl, p, _, _, _, rfl, rfl, SqT.of hp, rfl, rfl, _, rfl, iteDT rfl ?_⟩
    exact ⟨_, rfl, p, _, _, _, rfl, rfl, SqT.of hp, rfl, _, rfl, p, _, _, _, rfl, rfl, SqT.of hp, rfl, lists3 2 (by decide), fun p2 n2 => q p2 _ (same_new n2 _) upd_same⟩
  | row k m =>
    obtain ⟨p, ys, rfl, hp, v1, r1, rfl, rfl, v2, r2, rfl, hv2, v3, r3, rfl, rfl, rfl⟩ := hv
    refine ⟨_, rfl, p, _, _, _, rfl, rfl, SqT.of hp, rfl, rfl, _, rfl, iteND (n1 (by decide +kernel)) ?_⟩
    refine ⟨_, rfl, p, _, _, _, rfl, rfl, SqT.of hp, rfl, rfl, _, rfl, iteDT rfl ?_⟩
    have hdp' : k.deep + 1 ≤ n + 1 := hdp
    exact ⟨_, rfl, p, _, _, _, rfl, rfl, SqT.of hp, rfl, _, rfl, p, _, _, _, rfl, rfl, SqT.of hp, rfl, k, v2, m, rfl, hv2, hk.1, by omega, by omega, hk.2.1, hk.2.2, q⟩
  | rcd fs =>
    obtain ⟨p, ys, rfl, hp, v1, r1, rfl, rfl, v2, r2, rfl, ⟨l, zs, rfl, hl, hzs⟩, rfl⟩ := hv
    refine ⟨_, rfl, p, _, _, _, rfl, rfl, SqT.of hp, rfl, rfl, _, rfl, iteND (n1 (by decide +kernel)) ?_⟩
    refine ⟨_, rfl, p, _, _, _, rfl, rfl, SqT.of hp, rfl, rfl, _, rfl, iteND (n1 (by decide +kernel)) ?_⟩
    refine ⟨_, rfl, p, _, _, _, rfl, rfl, SqT.of hp, rfl, rfl, _, rfl, iteDT rfl ?_⟩
    have hdp' : deepF fs + 1 ≤ n + 1 := hdp
    have hlz : zs.length = fs.length := by rw [hzs.len, dtF_len]
    have hlf := hk.2
    refine ⟨_, rfl, p, _, _, _, rfl, rfl, SqT.of hp, rfl, l, rfl, ⟨_, SqL.of hl⟩, ?_⟩
    refine comp_list (xs := zs) (fun i acc H' => Same H H' ∧ IsDs H' (dtK ((fs.take i).map (·.2))) acc) (by omega) ⟨Same.refl _, rfl⟩ (fun i acc H' hi ⟨e, ea⟩ => ⟨SqL.of (e _ _ hl), by rw [ea.len, dtK_len, List.length_map, List.length_take]; omega⟩) (fun i x acc H' hx ⟨e, ea⟩ => ?_) (fun acc H' ⟨e, ea⟩ l2 hn2 => ?_)
    · obtain ⟨fl, pf, vf, ef, rfl, hpf, hvf⟩ := fields_at hzs hx
      refine nameYes ?_
      refine ⟨_, rfl, pf, _, _, _, rfl, rfl, SqT.of (e _ _ hpf), rfl, e, ?_⟩
      rw [take_snoc ef, List.map_append, List.map_cons, List.map_nil, dtK_snoc]
      exact ea.snoc (hvf.same e)
    · rw [hlz, List.take_length] at ea
      refine ⟨l2, acc, fs.map (·.2), rfl, upd_same, ea.same (same_new hn2 _), okF_map hk.1, by rw [deepF_map]; omega, by rw [List.length_map]; exact hlf, by omega, fun p2 H2 e2 hp2 => ?_⟩
      rw [rmF_map] at hp2
      exact q p2 H2 ((e.trans (same_new hn2 _)).trans e2) hp2
  | cho ks =>
    obtain ⟨p, ys, rfl, hp, v1, r1, rfl, rfl, v2, r2, rfl, ⟨l, zs, rfl, hl, hzs⟩, rfl⟩ := hv
    refine ⟨_, rfl, p, _, _, _, rfl, rfl, SqT.of hp, rfl, rfl, _, rfl, iteND (n1 (by decide +kernel)) ?_⟩
    refine ⟨_, rfl, p, _, _, _, rfl, rfl, SqT.of hp, rfl, rfl, _, rfl, iteND (n1 (by decide +kernel)) ?_⟩
    refine ⟨_, rfl, p, _, _, _, rfl, rfl, SqT.of hp, rfl, rfl, _, rfl, iteND (n1 (by decide +kernel)) ?_⟩
    have hdp' : deepK ks + 1 ≤ n + 1 := hdp
    exact ⟨_, rfl, p, _, _, _, rfl, rfl, SqT.of hp, rfl, l, zs, ks, rfl, hl, hzs, hk.1, by omega, hk.2, by omega, q⟩
theorem ro_none : FnOk P w K mg base CX0 j f fd ["kind"] (spRO 0) := by
  have no : ∀ vs H Q E, ¬ spRO 0 vs H Q E := fun vs H Q E h => by
    obtain ⟨kd, v, _, _, _, hd, _⟩ := h
    have := Kd.deep_pos kd
    omega
  exact ⟨fun vs H Q E h => absurd h (no vs H Q E), fun A outer s H args us vs Q E _ _ _ _ h => absurd h (no vs H Q E)⟩
end


def ldt (r : Int × Int) : Dt := .lst [.int r.1, .int r.2]
mutual
def Kd.Full : Kd → Prop
  | .num _ _ => True
  | .row k _ => k.Full
  | .rcd fs => fs ≠ [] ∧ fullF fs
  | .cho ks => ks ≠ [] ∧ fullK ks
def fullF : List (Str × Kd) → Prop
  | [] => True
  | f :: r => f.2.Full ∧ fullF r
def fullK : List Kd → Prop
  | [] => True
  | k :: r => k.Full ∧ fullK r
end
theorem fullK_at : ∀ {ks : List Kd} {i : Nat} {k : Kd}, fullK ks → ks[i]? = some k → k.Full
  | [], _, _, _, e => by simp at e
  | k' :: r, 0, k, h, e => by simp at e; subst e; exact h.1
  | k' :: r, i + 1, k, h, e => fullK_at (i := i) h.2 (by simpa using e)
mutual
def Dt.Sm : Dt → Prop
  | .tup ds => ds.length ≤ 1000 ∧ smD ds
  | .lst ds => ds.length ≤ 1000 ∧ smD ds
  | .int _ => True
  | .str _ => True
  | .bl _ => True
def smD : List Dt → Prop
  | [] => True
  | d :: r => d.Sm ∧ smD r
end
theorem smD_at : ∀ {ds : List Dt} {i : Nat} {d : Dt}, smD ds → ds[i]? = some d → d.Sm
  | [], _, _, _, e => by simp at e
  | k' :: r, 0, k, h, e => by simp at e; subst e; exact h.1
  | k' :: r, i + 1, k, h, e => smD_at (i := i) h.2 (by simpa using e)
theorem deepD_at : ∀ {ds : List Dt} {i : Nat} {d : Dt}, ds[i]? = some d → d.deep ≤ deepD ds
  | [], _, _, e => by simp at e
  | k' :: r, 0, k, e => by simp at e; subst e; exact Nat.le_max_left _ _
  | k' :: r, i + 1, k, e => Nat.le_trans (deepD_at (i := i) (by simpa using e)) (Nat.le_max_right _ _)
theorem Dt.deep_pos : ∀ d : Dt, 1 ≤ d.deep
  | .int _ => Nat.le_refl _
  | .str _ => Nat.le_refl _
  | .bl _ => Nat.le_refl _
  | .tup ds => Nat.le_add_left 1 (deepD ds)
  | .lst ds => Nat.le_add_left 1 (deepD ds)
mutual
theorem Kd.dt_sm : ∀ k : Kd, k.Ok → k.dt.Sm
  | .num _ _, _ => ⟨by show 3 ≤ 1000; decide, trivial, trivial, trivial, trivial⟩
  | .row k _, h => ⟨by show 3 ≤ 1000; decide, trivial, Kd.dt_sm k h.1, trivial, trivial⟩
  | .rcd fs, h => ⟨by show 2 ≤ 1000; decide, trivial, ⟨by rw [dtF_len]; have := h.2; omega, dtF_sm fs h.1⟩, trivial⟩
  | .cho ks, h => ⟨by show 2 ≤ 1000; decide, trivial, ⟨by rw [dtK_len]; have := h.2; omega, dtK_sm ks h.1⟩, trivial⟩
theorem dtF_sm : ∀ fs : List (Str × Kd), okF fs → smD (dtF fs)
  | [], _ => trivial
  | f :: r, h => ⟨⟨by show 2 ≤ 1000; decide, trivial, Kd.dt_sm f.2 h.1, trivial⟩, dtF_sm r h.2⟩
theorem dtK_sm : ∀ ks : List Kd, okK ks → smD (dtK ks)
  | [], _ => trivial
  | k :: r, h => ⟨Kd.dt_sm k h.1, dtK_sm r h.2⟩
end
def spLC (n : Nat) : Sp := fun vs H Q _ => ∃ (d : Dt) (v : V), vs = [v] ∧ IsD H d v ∧ d.Sm ∧ d.deep ≤ n ∧ ∀ v' H', Same H H' → IsD H' d v' → Q v' H'
def spLS (n : Nat) : Sp := fun vs H Q _ => ∃ (d : Dt) (v u : V), vs = [v, u] ∧ IsD H d v ∧ IsD H d u ∧ d.Sm ∧ d.deep ≤ n ∧ ∀ H', Same H H' → Q (.bl true) H'
section
variable {K : PySem.W.Frag}
def Dt.isB : Dt → Bool
  | .bl _ => true
  | _ => false
def Dt.isT : Dt → Bool
  | .tup _ => true
  | _ => false
def Dt.isL : Dt → Bool
  | .lst _ => true
  | _ => false
def Dt.isS : Dt → Bool
  | .str _ => true
  | _ => false
end
def codes (x : Str) : List Nat := x.cps.toList
theorem codes_len (x : Str) : x.length = (codes x).length := by simp [codes, Str.length]
theorem codes_app (x y : Str) : codes (x ++ y) = codes x ++ codes y := by
  show (x.cps ++ y.cps).toList = _
  rw [Array.toList_append]
  rfl
theorem codes_one (c : Nat) : codes ⟨#[c]⟩ = [c] := rfl
theorem codes_to {x : Str} {k : Int} (h0 : 0 ≤ k) (h1 : k ≤ (codes x).length) : codes (Txt.slice x none (some k)) = (codes x).take k.toNat := by
  have e := beq_iff_eq.mp (PyProof.Rows.slice_closes_toL (x := x) h0 (by rw [codes_len]; exact h1))
  rw [e]
  show (((x.cps.toList.drop 0).take (k - 0).toNat).toArray).toList = _
  simp [codes]
def Low (l : List Nat) : Prop := ∀ c ∈ l, 97 ≤ c ∧ c ≤ 122
def Nm (x : Str) : Prop := 1 ≤ (codes x).length ∧ (codes x).length ≤ 8 ∧ Low (codes x)
abbrev lets : Str := "abcdefghijklmnopqrstuvwxyz"
theorem lets_codes : codes lets = (List.range 26).map (97 + ·) := by decide +kernel
theorem lets_at {r : Int} (h0 : 0 ≤ r) (h1 : r < 26) : atI lets.cps.toList r = some (97 + r.toNat) := by
  have e : ((r.toNat : Nat) : Int) = r := by omega
  have q : atI (codes lets) ((r.toNat : Nat) : Int) = some (97 + r.toNat) := atI_nat (by
    rw [lets_codes, List.getElem?_map, List.getElem?_range (by omega)]
    rfl)
  rw [e] at q
  exact q
theorem len_app (x y : Str) : (x ++ y).length = x.length + y.length := by rw [codes_len, codes_app, List.length_append, codes_len x, codes_len y]
mutual
def Kd.Fit : Kd → Prop
  | .num w m => 1 ≤ w ∧ w ≤ 8 ∧ (m = 1 ∨ m = 2 ∨ m = 4 ∨ m = 8)
  | .row k n => k.Fit ∧ 1 ≤ n ∧ n ≤ 20
  | .rcd fs => fitF fs ∧ 1 ≤ fs.length ∧ fs.length ≤ 8 ∧ (fs.map (·.1)).Nodup
  | .cho ks => fitK ks ∧ 1 ≤ ks.length ∧ ks.length ≤ 6
def fitF : List (Str × Kd) → Prop
  | [] => True
  | f :: r => (Nm f.1 ∧ f.2.Fit) ∧ fitF r
def fitK : List Kd → Prop
  | [] => True
  | k :: r => k.Fit ∧ fitK r
end
mutual
theorem Kd.Fit.ok : ∀ (k : Kd), k.Fit → k.Ok
  | .num w m, h => by
    obtain ⟨a, b, c⟩ := h
    exact ⟨a, b, by omega, by omega⟩
  | .row k n, h => ⟨Kd.Fit.ok k h.1, by have := h.2.1; omega, by have := h.2.2; omega⟩
  | .rcd fs, h => ⟨fitF_ok fs h.1, by have := h.2.2.1; omega⟩
  | .cho ks, h => ⟨fitK_ok ks h.1, by have := h.2.2; omega⟩
theorem fitF_ok : ∀ (fs : List (Str × Kd)), fitF fs → okF fs
  | [], _ => trivial
  | f :: r, h => ⟨Kd.Fit.ok f.2 h.1.2, fitF_ok r h.2⟩
theorem fitK_ok : ∀ (ks : List Kd), fitK ks → okK ks
  | [], _ => trivial
  | k :: r, h => ⟨Kd.Fit.ok k h.1, fitK_ok r h.2⟩
end
mutual
theorem Kd.Fit.full : ∀ (k : Kd), k.Fit → k.Full
  | .num w m, h => trivial
  | .row k n, h => Kd.Fit.full k h.1
  | .rcd fs, h => ⟨(by intro z; rw [z] at h; exact absurd h.2.1 (by decide)), fitF_full fs h.1⟩
  | .cho ks, h => ⟨(by intro z; rw [z] at h; exact absurd h.2.1 (by decide)), fitK_full ks h.1⟩
theorem fitF_full : ∀ (fs : List (Str × Kd)), fitF fs → fullF fs
  | [], _ => trivial
  | f :: r, h => ⟨Kd.Fit.full f.2 h.1.2, fitF_full r h.2⟩
theorem fitK_full : ∀ (ks : List Kd), fitK ks → fullK ks
  | [], _ => trivial
  | k :: r, h => ⟨Kd.Fit.full k h.1, fitK_full r h.2⟩
end
theorem fitK_snoc : ∀ {ks : List Kd} {k : Kd}, fitK ks → k.Fit → fitK (ks ++ [k])
  | [], _, _, b => ⟨b, trivial⟩
  | g :: r, f, h, b => ⟨h.1, fitK_snoc h.2 b⟩
theorem deepK_snoc : ∀ {ks : List Kd} {k : Kd} {n : Nat}, deepK ks ≤ n → k.deep ≤ n → deepK (ks ++ [k]) ≤ n
  | [], f, n, _, b => by show max f.deep 0 ≤ n; omega
  | g :: r, f, n, h, b => by
    have h' : max g.deep (deepK r) ≤ n := h
    have := deepK_snoc (ks := r) (k := f) (n := n) (by omega) b
    show max g.deep (deepK (r ++ [f])) ≤ n
    omega
theorem num_is {H : Hp} {p t : Addr} {w m : Int} (n : t ≠ p) (h : H t = some (.tup [.str "number", .int w, .int m])) : IsD (hide p H) (Kd.num w m).dt (.ref t) :=
  ⟨t, _, rfl, by rw [hide_ne n]; exact h, _, _, rfl, rfl, _, _, rfl, rfl, _, _, rfl, rfl, rfl⟩
theorem row_is {H : Hp} {p t : Addr} {kd : Kd} {v : V} {m : Int} (n : t ≠ p) (h : H t = some (.tup [.str "row", v, .int m])) (hk : IsD (hide p H) kd.dt v) : IsD (hide p H) (Kd.row kd m).dt (.ref t) :=
  ⟨t, _, rfl, by rw [hide_ne n]; exact h, _, _, rfl, rfl, _, _, rfl, hk, _, _, rfl, rfl, rfl⟩
theorem rcd_is {H : Hp} {p t l : Addr} {fs : List (Str × Kd)} {vs : List V} (n : t ≠ p) (nl : l ≠ p) (h : H t = some (.tup [.str "record", .ref l])) (hl : H l = some (.lst vs)) (hk : IsDs (hide p H) (dtF fs) vs) : IsD (hide p H) (Kd.rcd fs).dt (.ref t) :=
  ⟨t, _, rfl, by rw [hide_ne n]; exact h, _, _, rfl, rfl, _, _, rfl, ⟨l, _, rfl, by rw [hide_ne nl]; exact hl, hk⟩, rfl⟩
theorem cho_is {H : Hp} {p t l : Addr} {ks : List Kd} {vs : List V} (n : t ≠ p) (nl : l ≠ p) (h : H t = some (.tup [.str "choice", .ref l])) (hl : H l = some (.lst vs)) (hk : IsDs (hide p H) (dtK ks) vs) : IsD (hide p H) (Kd.cho ks).dt (.ref t) :=
  ⟨t, _, rfl, by rw [hide_ne n]; exact h, _, _, rfl, rfl, _, _, rfl, ⟨l, _, rfl, by rw [hide_ne nl]; exact hl, hk⟩, rfl⟩
theorem two_in {v : V} {a b B : Int} (h : v ∈ [V.int a, V.int b]) (a0 : 0 ≤ a) (a1 : a < B) (b0 : 0 ≤ b) (b1 : b < B) : ∃ z, v = .int z ∧ 0 ≤ z ∧ z < B := by
  simp only [List.mem_cons, List.not_mem_nil, or_false] at h
  rcases h with rfl | rfl
  · exact ⟨_, rfl, a0, a1⟩
  · exact ⟨_, rfl, b0, b1⟩
theorem four_in {v : V} (h : v ∈ [V.int 1, V.int 2, V.int 4, V.int 8]) : ∃ z, v = .int z ∧ (z = 1 ∨ z = 2 ∨ z = 4 ∨ z = 8) := by
  simp only [List.mem_cons, List.not_mem_nil, or_false] at h
  rcases h with rfl | rfl | rfl | rfl
  · exact ⟨_, rfl, by omega⟩
  · exact ⟨_, rfl, by omega⟩
  · exact ⟨_, rfl, by omega⟩
  · exact ⟨_, rfl, by omega⟩
structure Fx (K : PySem.W.Frag) (mg : Str → Option Value) (nm : Str) (st : Stmt) (ps : List Str) (f : Addr) (fd : FuncData) : Prop where
  F : Fun K nm nm st f fd
  b : Binds K fd ps []
  k : PySem.W.keepIn K (.ref f) = true
  m : mg nm = some (.ref f)
section
variable {P : Program} {w : World} {K : PySem.W.Frag} {mg : Str → Option Value} {base : Heap} {fRU fRO fRS fGM fSO fRR fRC fPB fRH fCA fP fT fLR fLM fLN fLK fLC fLS f : Addr} {dRU dRO dRS dGM dSO dRR dRC dPB dRH dCA dP dT dLR dLM dLN dLK dLC dLS fd : FuncData}
theorem ro_all (xRU : Fx K mg "rounded_up" s_rounded_up ["number", "m"] fRU dRU) (xRO : Fx K mg "room_of" s_room_of ["kind"] fRO dRO) (xRS : Fx K mg "rooms_of" s_rooms_of ["kinds"] fRS dRS) (xGM : Fx K mg "greatest_multiple" s_greatest_multiple ["rooms"] fGM dGM)
    (xSO : Fx K mg "step_of" s_step_of ["room"] fSO dSO) (xRR : Fx K mg "room_of_row" s_room_of_row ["kind", "n"] fRR dRR) (xRC : Fx K mg "room_of_record" s_room_of_record ["kinds"] fRC dRC) (xPB : Fx K mg "places_behind" s_places_behind ["rooms"] fPB dPB)
    (xRH : Fx K mg "room_of_choice" s_room_of_choice ["kinds"] fRH dRH) (xCA : Fx K mg "chosen_at" s_chosen_at ["multiple"] fCA dCA) (m_max : mg "max" = none) (m_zip : mg "zip" = none) :
    ∀ n, FnOk P w K mg base CX0 (2 + 3 * n) fRO dRO ["kind"] (spRO n)
  | 0 => ro_none
  | n + 1 => by
    have ih := ro_all xRU xRO xRS xGM xSO xRR xRC xPB xRH xCA m_max m_zip n
    have GRU : FnOk P w K mg base CX0 1 fRU dRU ["number", "m"] spRU := ok_ru xRU.F
    have GSO : FnOk P w K mg base CX0 2 fSO dSO ["room"] spSO := ok_so xSO.F GRU xRU.b xRU.k xRU.m
    have GCA : FnOk P w K mg base CX0 2 fCA dCA ["multiple"] spCA := ok_ca xCA.F GRU xRU.b xRU.k xRU.m
    have GGM : FnOk P w K mg base CX0 1 fGM dGM ["rooms"] spGM := ok_gm xGM.F m_max
    have GPB : FnOk P w K mg base CX0 2 fPB dPB ["rooms"] spPB := ok_pb xPB.F GRU xRU.b xRU.k xRU.m
    have GRS := ok_rs xRS.F ih xRO.b xRO.k xRO.m
    have GRR := ok_rr xRR.F (ih.mono (Nat.le_succ _)) xRO.b xRO.k xRO.m GSO xSO.b xSO.k xSO.m (by omega)
    have GRC := ok_rc xRC.F GRS xRS.b xRS.k xRS.m GGM xGM.b xGM.k xGM.m GPB xPB.b xPB.k xPB.m GRU xRU.b xRU.k xRU.m m_max m_zip (by omega)
    have GRH := ok_rh xRH.F GRS xRS.b xRS.k xRS.m GGM xGM.b xGM.k xGM.m GCA xCA.b xCA.k xCA.m GRU xRU.b xRU.k xRU.m m_max (by omega)
    exact (ok_ro xRO.F GRR xRR.b xRR.k xRR.m GRC xRC.b xRC.k xRC.m GRH xRH.b xRH.k xRH.m).mono (by omega)
end

def DeckAt (p : Addr) (H : Hp) : Prop := ∃ ns : List Int, H p = some (.lst (ns.map V.int)) ∧ ∀ n ∈ ns, 0 ≤ n ∧ n < 2 ^ 40
theorem DeckAt.same {p : Addr} {H H' : Hp} (h : DeckAt p H) (e : Same H H') : DeckAt p H' := by
  obtain ⟨ns, a, b⟩ := h
  exact ⟨ns, e _ _ a, b⟩
theorem DeckAt.ne {p l : Addr} {H : Hp} (h : DeckAt p H) (hl : H l = none) : l ≠ p := by
  obtain ⟨ns, a, b⟩ := h
  intro e
  rw [e, a] at hl
  cases hl
theorem same_set {H H' : Hp} {l : Addr} (e : Same H H') (hl : H l = none) (o : HO) : Same H (upd H' l o) := fun b u q => by
  rw [upd_ne (ne_of_none q hl)]
  exact e b u q
def spCE (K : PySem.W.Frag) : Sp := fun vs H Q _ => ∃ (a : Addr) (ns : List Int) (k : Int), vs = [.ref a, .int k] ∧ SqL K H a (ns.map V.int) ∧ 0 ≤ k ∧ ∀ c : Int, Q (.int c) H
def spST : Sp := fun vs H Q _ => ∃ c k : Int, vs = [.int c, .int k] ∧ 0 ≤ k ∧ k < 2 ^ 20 ∧ ∀ r : Int, 0 ≤ r → r < 2 ^ 40 → Q (.int r) H
def spDE : Sp := fun vs H Q _ => ∃ c m : Int, vs = [.int c, .int m] ∧ 0 ≤ m ∧ m ≤ 200 ∧ ∀ (p : Addr) (H' : Hp), H p = none → Same H H' → DeckAt p H' → Q (.ref p) H'
def spNX : Sp := fun vs H Q _ => ∃ p : Addr, vs = [.ref p] ∧ DeckAt p H ∧ ∀ (r : Int) (H' : Hp), 0 ≤ r → r < 2 ^ 40 → SameX p H H' → DeckAt p H' → Q (.int r) H'
def spNA : Sp := fun vs H Q _ => ∃ (p : Addr) (many : Int), vs = [.ref p, .int many] ∧ DeckAt p H ∧ 0 ≤ many ∧ many ≤ 12 ∧
  ∀ (l : Addr) (xs : List Str) (H' : Hp), l ≠ p → H l = none → H' l = some (.lst (xs.map V.str)) → xs.length = many.toNat → xs.Nodup → (∀ x ∈ xs, Nm x) → SameX p H H' → DeckAt p H' → Q (.ref l) H'
section
variable {P : Program} {w : World} {K : PySem.W.Frag} {mg : Str → Option Value} {base : Heap} {f fST fNX : Addr} {fd dST dNX : FuncData}
theorem ok_ce (F : Fun K "_law_cell_at" "_law_cell_at" s_law_cell_at f fd) (m_len : mg "len" = none) : FnOk P w K mg base CX0 1 f fd ["script", "k"] (spCE K) := by
  refine F.ok sc_law_cell_at (fun vs H Q E h => ?_) (fun cdv A outer s H vs Q E hr h => ?_)
  · obtain ⟨a, ns, k, rfl, _⟩ := h
    rfl
  obtain ⟨a, ns, k, rfl, hS, h0, q⟩ := h
  refine ⟨_, (pss_cons (ps_if (pt_cmpR op_lt (pv 1) (pe_callB call_len_seq rfl m_len PySem.boot_len (pa_cons (pv 0) pa_nil)) (nomark _)) (pss_one (ps_ret (pe_ix ix_list (pv 0) (pv 1) (fun _ _ => rfl)))) pss_nil)
    (pss_one (ps_ret pe_int))), ?_⟩
  refine ⟨_, rfl, _, rfl, a, _, rfl, .inl hS, _, _, rfl, rfl, _, rfl, ite2 (fun c => ?_) (fun c => q 0)⟩
  obtain ⟨v, hv, hm⟩ := atI_in (xs := ns.map V.int) h0 (of_decide_eq_true c)
  obtain ⟨z, _, rfl⟩ := List.mem_map.mp hm
  exact ⟨_, rfl, _, rfl, a, _, _, _, rfl, rfl, hS, hv, q z⟩
theorem ok_st (F : Fun K "_law_stir" "_law_stir" s_law_stir f fd) : FnOk P w K mg base CX0 1 f fd ["cell", "k"] spST := by
  refine F.ok sc_law_stir (fun vs H Q E h => ?_) (fun cdv A outer s H vs Q E hr h => ?_)
  · obtain ⟨c, k, rfl, _⟩ := h
    rfl
  obtain ⟨c, k, rfl, h0, h1, q⟩ := h
  refine ⟨_, (pss_cons (ps_set (i := 2) sc_law_stir.nd rfl (Or.inl rfl) (pe_op op_mod (pe_op op_mulB (pe_op op_add (pe_op op_add (pe_op op_mod (pv 0) pe_int) (pe_op op_mulB pe_int (pv 1))) pe_int) pe_int) pe_int))
    (pss_cons (ps_set (i := 2) sc_law_stir.nd rfl (Or.inl rfl) (pe_op op_mod (pe_op op_mulB (pv 2) (pv 2)) pe_int))
    (pss_one (ps_ret (pe_op op_fdivB (pe_op op_mod (pe_op op_mulB (pe_op op_add (pv 2) (pe_op op_mulB pe_int (pv 1))) pe_int) pe_int) pe_int))))), ?_⟩
  have a0 : (0 : Int) ≤ c % 2147483629 := Int.emod_nonneg _ (by decide)
  have a1 : c % 2147483629 < 2147483629 := Int.emod_lt_of_pos _ (by decide)
  refine ⟨_, rfl, _, _, rfl, rfl, (by show (0 : Int) < 2147483629; decide), _, rfl, _, _, rfl, rfl, ⟨by decide, by omega⟩, _, _, rfl, rfl, _, _, rfl, rfl, _, _, rfl, rfl, ⟨by omega, by decide⟩, _, _, rfl, rfl, (by show (0 : Int) < 2147483647; decide), ?_⟩
  have b0 : (0 : Int) ≤ (c % 2147483629 + 9973 * k + 5) * 48271 % 2147483647 := Int.emod_nonneg _ (by decide)
  have b1 : (c % 2147483629 + 9973 * k + 5) * 48271 % 2147483647 < 2147483647 := Int.emod_lt_of_pos _ (by decide)
  generalize (c % 2147483629 + 9973 * k + 5) * 48271 % 2147483647 = B at b0 b1 ⊢
  refine ⟨_, rfl, _, rfl, _, _, rfl, rfl, ⟨by omega, by omega⟩, _, _, rfl, rfl, (by show (0 : Int) < 2147483587; decide), ?_⟩
  have c0 : (0 : Int) ≤ B * B % 2147483587 := Int.emod_nonneg _ (by decide)
  have c1 : B * B % 2147483587 < 2147483587 := Int.emod_lt_of_pos _ (by decide)
  generalize B * B % 2147483587 = C at c0 c1 ⊢
  refine ⟨_, rfl, _, rfl, _, _, rfl, rfl, ⟨by decide, by omega⟩, _, _, rfl, rfl, _, _, rfl, rfl, ⟨by omega, by decide⟩, _, _, rfl, rfl, (by show (0 : Int) < 2147483563; decide), _, _, rfl, rfl, ⟨by decide, by decide⟩, ?_⟩
  have d0 : (0 : Int) ≤ (C + 7919 * k) * 16807 % 2147483563 := Int.emod_nonneg _ (by decide)
  have d1 : (C + 7919 * k) * 16807 % 2147483563 < 2147483563 := Int.emod_lt_of_pos _ (by decide)
  generalize (C + 7919 * k) * 16807 % 2147483563 = D at d0 d1 ⊢
  exact q _ (by omega) (by omega)
theorem ok_de (F : Fun K "_law_deck" "_law_deck" s_law_deck f fd) (GST : FnOk P w K mg base CX0 1 fST dST ["cell", "k"] spST) (bST : Binds K dST ["cell", "k"] []) (kST : PySem.W.keepIn K (.ref fST) = true) (mST : mg "_law_stir" = some (.ref fST)) (m_range : mg "range" = none) :
    FnOk P w K mg base CX0 2 f fd ["cell", "many"] spDE := by
  refine F.ok sc_law_deck (fun vs H Q E h => ?_) (fun cdv A outer s H vs Q E hr h => ?_)
  · obtain ⟨c, m, rfl, _⟩ := h
    rfl
  obtain ⟨c, m, rfl, h0, h1, q⟩ := h
  refine ⟨_, (pss_cons (ps_set (i := 2) sc_law_deck.nd rfl (Or.inl rfl) (pe_lst pa_nil))
    (pss_cons (ps_set (i := 3) sc_law_deck.nd rfl (Or.inl rfl) (pv 0))
    (pss_cons (ps_for PassesOwn.never rfl (pi_range1 rfl m_range (pa_cons (pv 1) pa_nil)) (pg_name (i := 4) sc_law_deck.nd rfl (Or.inl rfl)) (pss_cons (ps_set (i := 5) sc_law_deck.nd rfl (Or.inl rfl) (pe_call GST hr rfl mST kST bST .nil pass0 (pa_cons (pv 0) (pa_cons (pv 4) pa_nil))))
    (pss_cons (ps_mid (ps_if (pt_cmpR op_ge (pv 0) (pe_op op_pow pe_int pe_int) (nomark _)) (pss_one (ps_set (i := 5) sc_law_deck.nd rfl (Or.inl rfl) (pe_op op_mod (pv 3) pe_int))) pss_nil))
    (pss_cons (ps_set (i := 3) sc_law_deck.nd rfl (Or.inl rfl) (pe_op op_fdivB (pv 3) pe_int))
    (pss_one (ps_expr (pe_bm PySem.F.plainAttrs_list PySem.F.slot_list_append PySem.F.type_list_append mt_append (pv 2) (pa_cons (pv 5) pa_nil))))))))
    (pss_one (ps_ret (pe_revL (pv 2))))))), ?_⟩
  have cp : CPow 10 18 := ⟨by decide, by decide, by decide⟩
  refine ⟨lists3 0 (by decide), fun l hl => ⟨_, rfl, _, rfl, m, rfl, by omega, by omega, ?_⟩⟩
  refine for_range (n := m.toNat) (fun i σ H' => ∃ (ns : List Int) (d : Int) (x4 x5 : Option V), σ = [some (.int c), some (.int m), some (.ref l), some (.int d), x4, x5] ∧ ns.length = i ∧ (∀ n ∈ ns, 0 ≤ n ∧ n < 2 ^ 40) ∧ Same H H' ∧ H' l = some (.lst (ns.map V.int))) ?_ ?_ ?_
  · exact ⟨[], _, _, _, rfl, rfl, (fun n hn => nomatch hn), same_new hl _, upd_same⟩
  · rintro i σ H1 hi ⟨ns, d, x4, x5, rfl, hln, hns, e1, hl1⟩
    refine ⟨_, rfl, _, rfl, c, _, rfl, by omega, by omega, fun r r0 r1 => ?_⟩
    refine ⟨fun σ' H' => ∃ r : Int, 0 ≤ r ∧ r < 2 ^ 40 ∧ σ' = [some (.int c), some (.int m), some (.ref l), some (.int d), some (.int (0 + (i : Int))), some (.int r)] ∧ H' = H1, ?_, ?_⟩
    · refine ⟨_, rfl, _, _, rfl, rfl, cp, _, _, rfl, rfl, _, rfl, ite2 (fun c2 => ?_) (fun c2 => ⟨r, r0, r1, rfl, rfl⟩)⟩
      have g0 : (0 : Int) ≤ d % 720720 := Int.emod_nonneg _ (by decide)
      have g1 : d % 720720 < 720720 := Int.emod_lt_of_pos _ (by decide)
      exact ⟨_, rfl, _, _, rfl, rfl, (by show (0 : Int) < 720720; decide), _, g0, by omega, rfl, rfl⟩
    · rintro σ' H' ⟨r', r'0, r'1, rfl, rfl⟩
      refine ⟨_, rfl, _, _, rfl, rfl, ⟨by decide, by decide⟩, _, rfl, .inl ⟨rfl, _, SqL.of hl1⟩, _, rfl, l, _, _, rfl, rfl, hl1, by rw [List.length_map]; exact small1000 (by omega), ?_⟩
      refine ⟨ns ++ [r'], _, _, _, rfl, by rw [List.length_append, hln]; rfl, fun n hn => ?_, same_set e1 hl _, by rw [upd_same, List.map_append]; rfl⟩
      rcases List.mem_append.mp hn with hn | hn
      · exact hns n hn
      · rw [List.mem_singleton.mp hn]; exact ⟨r'0, r'1⟩
  · rintro σ H1 ⟨ns, d, x4, x5, rfl, hln, hns, e1, hl1⟩
    refine ⟨_, rfl, l, _, rfl, SqL.of hl1, fun p hp => ?_⟩
    have hpH : H p = none := by
      cases z : H p with
      | none => rfl
      | some o => rw [e1 _ _ z] at hp; cases hp
    exact q p _ hpH (e1.trans (same_new hp _)) ⟨ns.reverse, by rw [upd_same, List.map_reverse], fun n hn => hns n (List.mem_reverse.mp hn)⟩
theorem ok_nx (F : Fun K "_law_next" "_law_next" s_law_next f fd) : FnOk P w K mg base CX0 1 f fd ["deck"] spNX := by
  refine F.ok sc_law_next (fun vs H Q E h => ?_) (fun cdv A outer s H vs Q E hr h => ?_)
  · obtain ⟨p, rfl, _⟩ := h
    rfl
  obtain ⟨p, rfl, ⟨ns, hp, hns⟩, q⟩ := h
  have hu := hr.units0
  refine ⟨_, (pss_cons (ps_if (pt_cmpR (op_eqNil hu) (pv 0) (pe_lst pa_nil) (nomark _)) (pss_one (ps_ret pe_int)) pss_nil)
    (pss_one (ps_ret (pe_bm0 PySem.F.plainAttrs_list PySem.F.slot_list_pop PySem.F.type_list_pop mt_pop (pv 0))))), ?_⟩
  refine ⟨_, rfl, lists3 0 (by decide), fun l2 hn2 => ?_⟩
  have e1 := same_new hn2 (.lst [])
  have hp1 := e1 _ _ hp
  refine ⟨p, l2, _, rfl, rfl, SqL.of hp1, SqL.of upd_same, _, rfl, ite2 (fun c => ?_) (fun c => ?_)⟩
  · exact q 0 _ (by decide) (by decide) (SameX.of e1) ⟨ns, hp1, hns⟩
  · have hne : ns ≠ [] := fun z => by subst z; exact c rfl
    have hy : (ns.map V.int)[(ns.map V.int).length - 1]? = some (.int (ns.getLast hne)) := by
      rw [List.getElem?_map, List.length_map, ← List.getLast?_eq_getElem?, List.getLast?_eq_some_getLast hne]
      rfl
    refine ⟨_, rfl, .inl ⟨rfl, _, SqL.of hp1⟩, p, _, _, rfl, rfl, hp1, hy, ?_⟩
    obtain ⟨g0, g1⟩ := hns _ (List.getLast_mem hne)
    exact q _ _ g0 g1 ((SameX.of e1).trans (SameX.upd _ _ _)) ⟨ns.dropLast, by rw [upd_same, List.map_dropLast], fun n hn => hns n (List.dropLast_subset _ hn)⟩
theorem nm_dk {r k : Int} (h0 : 0 ≤ r) (h1 : r < 8) (k0 : 0 ≤ k) (k1 : k < 26) : Nm (Txt.slice "placeof" none (some r) ++ (⟨#[97 + k.toNat]⟩ : Str)) := by
  have e : codes (Txt.slice "placeof" none (some r)) = (codes "placeof").take r.toNat := codes_to h0 (by show r ≤ 7; omega)
  unfold Nm
  rw [codes_app, e, codes_one]
  have hl : ((codes "placeof").take r.toNat).length ≤ 7 := by rw [List.length_take]; show min _ 7 ≤ 7; omega
  refine ⟨by rw [List.length_append]; show 1 ≤ _ + 1; omega, by rw [List.length_append]; show _ + 1 ≤ 8; omega, fun c hc => ?_⟩
  rcases List.mem_append.mp hc with hc | hc
  · have hm := List.mem_of_mem_take hc
    have : ∀ c ∈ codes "placeof", 97 ≤ c ∧ c ≤ 122 := by decide
    exact this c hm
  · rw [List.mem_singleton.mp hc]; omega
theorem last_dk {a b : Str} {x y : Nat} (h : a ++ (⟨#[x]⟩ : Str) = b ++ (⟨#[y]⟩ : Str)) : x = y := by
  have e := congrArg codes h
  rw [codes_app, codes_app, codes_one, codes_one] at e
  have := congrArg List.getLast? e
  rw [List.getLast?_append, List.getLast?_append] at this
  simpa using this
theorem ok_na (F : Fun K "_law_names" "_law_names" s_law_names f fd) (GNX : FnOk P w K mg base CX0 1 fNX dNX ["deck"] spNX) (bNX : Binds K dNX ["deck"] []) (kNX : PySem.W.keepIn K (.ref fNX) = true) (mNX : mg "_law_next" = some (.ref fNX)) (m_range : mg "range" = none) :
    FnOk P w K mg base CX0 2 f fd ["deck", "many"] spNA := by
  refine F.ok sc_law_names (fun vs H Q E h => ?_) (fun cdv A outer s H vs Q E hr h => ?_)
  · obtain ⟨p, many, rfl, _⟩ := h
    rfl
  obtain ⟨p, many, rfl, hp, hm0, hm1, q⟩ := h
  refine ⟨_, (pss_cons (ps_set (i := 2) sc_law_names.nd rfl (Or.inl rfl) (pe_call GNX hr rfl mNX kNX bNX .nil pass0 (pa_cons (pv 0) pa_nil)))
    (pss_cons (ps_set (i := 3) sc_law_names.nd rfl (Or.inl rfl) (pe_lst pa_nil))
    (pss_cons (ps_for PassesOwn.never rfl (pi_range1 rfl m_range (pa_cons (pv 1) pa_nil)) (pg_name (i := 4) sc_law_names.nd rfl (Or.inl rfl)) (pss_cons (ps_set (i := 5) sc_law_names.nd rfl (Or.inl rfl) (pe_ix ix_str pe_str (pe_op op_mod (pe_op op_add (pv 2) (pv 4)) pe_int) (fun _ _ => rfl)))
    (pss_one (ps_expr (pe_bm PySem.F.plainAttrs_list PySem.F.slot_list_append PySem.F.type_list_append mt_append (pv 3) (pa_cons (pe_op op_add_str (pe_slice sl_str pe_str po_none (po_some (pe_op op_mod (pe_call GNX hr rfl mNX kNX bNX .nil pass0 (pa_cons (pv 0) pa_nil)) pe_int))) (pv 5)) pa_nil))))))
    (pss_one (ps_ret (pv 3)))))), ?_⟩
  have ll : lets.length ≤ sizeLine := by show 26 ≤ sizeLine; exact lists3 26 (by decide)
  refine ⟨_, rfl, p, rfl, hp, fun st H1 st0 st1 e1 hP1 => ?_⟩
  refine ⟨lists3 0 (by decide), fun l hl => ?_⟩
  have hlp : l ≠ p := hP1.ne hl
  have hl0 : H l = none := by
    cases z : H l with
    | none => rfl
    | some o => rw [e1.get hlp z] at hl; cases hl
  refine ⟨_, rfl, many, rfl, by omega, by omega, ?_⟩
  refine for_range (n := many.toNat) (fun i σ' H' => ∃ (xs : List Str) (o4 o5 : Option V), σ' = [some (.ref p), some (.int many), some (.int st), some (.ref l), o4, o5] ∧ xs.length = i ∧ (∀ (j : Nat) (x : Str), xs[j]? = some x → ∃ a : Str, x = a ++ (⟨#[97 + ((st + (0 + (j : Int))) % 26).toNat]⟩ : Str)) ∧ (∀ x ∈ xs, Nm x) ∧ H' l = some (.lst (xs.map V.str)) ∧ SameX p H H' ∧ DeckAt p H') ?_ ?_ ?_
  · exact ⟨[], _, _, rfl, rfl, (fun j x h => by simp at h), (fun x hx => nomatch hx), upd_same, e1.trans (SameX.of (same_new hl _)), hP1.same (same_new hl _)⟩
  · rintro i σ' H2 hi ⟨xs, o4, o5, rfl, hxl, hxs, hnm, hl2, e2, hP2⟩
    have g0 : (0 : Int) ≤ (st + (0 + (i : Int))) % 26 := Int.emod_nonneg _ (by decide)
    have g1 : (st + (0 + (i : Int))) % 26 < 26 := Int.emod_lt_of_pos _ (by decide)
    refine ⟨_, rfl, _, rfl, _, _, rfl, rfl, _, _, rfl, rfl, (by show (0 : Int) < 26; decide), _, _, _, rfl, rfl, ll, lets_at g0 g1, ?_⟩
    refine ⟨_, rfl, .inl ⟨rfl, _, SqL.of hl2⟩, _, rfl, p, rfl, hP2, fun r H3 r0 r1 e3 hP3 => ?_⟩
    have w0 : (0 : Int) ≤ r % 8 := Int.emod_nonneg _ (by decide)
    have w1 : r % 8 < 8 := Int.emod_lt_of_pos _ (by decide)
    have nmk := nm_dk w0 w1 g0 g1
    have hl3 := e3.get hlp hl2
    refine ⟨_, _, rfl, rfl, (by show (0 : Int) < 8; decide), _, rfl, _, rfl, lists3 7 (by decide), _, rfl, _, _, rfl, rfl, ?_, ?_⟩
    · have hz := nmk.2.1
      rw [← codes_len] at hz
      refine lists3 _ (Nat.le_trans ?_ (show 8 ≤ 1000 by decide))
      exact Nat.le_trans (Nat.le_of_eq (len_app _ _).symm) hz
    · refine ⟨l, _, _, rfl, rfl, hl3, by rw [List.length_map]; exact small1000 (by omega), ?_⟩
      refine ⟨xs ++ [Txt.slice "placeof" none (some (r % 8)) ++ (⟨#[97 + ((st + (0 + (i : Int))) % 26).toNat]⟩ : Str)], _, _, rfl, by rw [List.length_append, hxl]; rfl, fun j x hj => ?_, fun x hx => ?_, by rw [upd_same, List.map_append]; rfl, ?_, ?_⟩
      · by_cases hji : j < xs.length
        · rw [List.getElem?_append_left hji] at hj; exact hxs j x hj
        · have hj' : j = xs.length := by
            have := (List.getElem?_eq_some_iff.mp hj).1
            rw [List.length_append] at this
            simp at this
            omega
          subst hj'
          rw [List.getElem?_append_right (Nat.le_refl _), Nat.sub_self] at hj
          cases hj
          rw [hxl]
          exact ⟨_, rfl⟩
      · rcases List.mem_append.mp hx with hx | hx
        · exact hnm x hx
        · rw [List.mem_singleton.mp hx]; exact nmk
      · have e23 := e2.trans e3
        exact fun b o hb => by
          obtain ⟨n1, q1⟩ := hide_some hb
          have := e23 b o hb
          rw [hide_ne n1] at this ⊢
          rw [upd_ne (ne_of_none q1 hl0)]
          exact this
      · obtain ⟨ns, a1, a2⟩ := hP3
        exact ⟨ns, by rw [upd_ne (Ne.symm hlp)]; exact a1, a2⟩
  · rintro σ' H2 ⟨xs, o4, o5, rfl, hxl, hxs, hnm, hl2, e2, hP2⟩
    refine ⟨_, rfl, q l xs H2 hlp hl0 hl2 hxl ?_ hnm e2 hP2⟩
    rw [List.nodup_iff_pairwise_ne, List.pairwise_iff_getElem]
    intro i j hi hj hij heq
    obtain ⟨a, ha⟩ := hxs i _ (List.getElem?_eq_getElem hi)
    obtain ⟨b, hb⟩ := hxs j _ (List.getElem?_eq_getElem hj)
    rw [ha, hb] at heq
    have := last_dk heq
    omega
end

def spKI (n : Nat) : Sp := fun vs H Q _ => ∃ (p : Addr) (d : Int), vs = [.ref p, .int d] ∧ DeckAt p H ∧ 1 ≤ d ∧ d ≤ n ∧
  ∀ (kd : Kd) (v : V) (H' : Hp), SameX p H H' → IsD (hide p H') kd.dt v → kd.Fit → (kd.deep : Int) ≤ d → DeckAt p H' → Q v H'
theorem two_of {v : V} {a b : Int} (h : v ∈ [V.int a, V.int b]) : ∃ z, v = .int z ∧ (z = a ∨ z = b) := by
  simp only [List.mem_cons, List.not_mem_nil, or_false] at h
  rcases h with rfl | rfl
  · exact ⟨_, rfl, .inl rfl⟩
  · exact ⟨_, rfl, .inr rfl⟩
theorem pairs_is {H : Hp} : ∀ {xs : List Str} {ks : List Kd} {vs zs : List V}, IsDs H (dtK ks) vs → xs.length = ks.length → zs.length = xs.length → (∀ (j : Nat) (x y : V), (xs.map V.str)[j]? = some x → vs[j]? = some y → ∃ T : Addr, zs[j]? = some (.ref T) ∧ H T = some (.tup [x, y])) → IsDs H (dtF (xs.zip ks)) zs
  | [], [], _, zs, _, _, hz, _ => List.eq_nil_of_length_eq_zero hz
  | x :: xs, k :: ks, vs, zs, ⟨v, vr, e, h1, h2⟩, hl, hz, hp => by
    subst e
    obtain ⟨T, a, b⟩ := hp 0 (.str x) v rfl rfl
    match zs, hz, a with
    | z :: zr, hz, a =>
      cases a
      refine ⟨.ref T, zr, rfl, ⟨T, _, rfl, b, _, _, rfl, rfl, _, _, rfl, h1, rfl⟩, pairs_is h2 (by simpa using hl) (by simpa using hz) fun j x' y' e1 e2 => ?_⟩
      obtain ⟨T', c, d⟩ := hp (j + 1) x' y' (by simpa using e1) (by simpa using e2)
      exact ⟨T', by simpa using c, d⟩
  | [], _ :: _, _, _, _, hl, _, _ => by simp at hl
  | _ :: _, [], _, _, _, hl, _, _ => by simp at hl
theorem zip_fit : ∀ {xs : List Str} {ks : List Kd}, fitK ks → (∀ x ∈ xs, Nm x) → fitF (xs.zip ks)
  | [], _, _, _ => trivial
  | _ :: _, [], _, _ => trivial
  | x :: xs, k :: ks, h, hn => ⟨⟨hn x List.mem_cons_self, h.1⟩, zip_fit h.2 fun y hy => hn y (List.mem_cons_of_mem _ hy)⟩
theorem zip_deep : ∀ {xs : List Str} {ks : List Kd}, deepF (xs.zip ks) ≤ deepK ks
  | [], _ => Nat.zero_le _
  | _ :: _, [] => Nat.zero_le _
  | x :: xs, k :: ks => by
    have := zip_deep (xs := xs) (ks := ks)
    show max k.deep (deepF (xs.zip ks)) ≤ max k.deep (deepK ks)
    omega
theorem zip_fst : ∀ {xs : List Str} {ks : List Kd}, xs.length = ks.length → (xs.zip ks).map (·.1) = xs
  | [], _, _ => rfl
  | x :: xs, [], h => by simp at h
  | x :: xs, k :: ks, h => by show x :: (xs.zip ks).map _ = _; rw [zip_fst (by simpa using h)]
section
variable {P : Program} {w : World} {K : PySem.W.Frag} {mg : Str → Option Value} {base : Heap} {f fNX fNA fKI : Addr} {fd dNX dNA dKI : FuncData} {n j : Nat}
set_option maxHeartbeats 16000000 in
theorem ok_ki (F : Fun K "_law_kind" "_law_kind" s_law_kind f fd) (GNX : FnOk P w K mg base CX0 1 fNX dNX ["deck"] spNX) (bNX : Binds K dNX ["deck"] []) (kNX : PySem.W.keepIn K (.ref fNX) = true) (mNX : mg "_law_next" = some (.ref fNX))
    (GNA : FnOk P w K mg base CX0 2 fNA dNA ["deck", "many"] spNA) (bNA : Binds K dNA ["deck", "many"] []) (kNA : PySem.W.keepIn K (.ref fNA) = true) (mNA : mg "_law_names" = some (.ref fNA))
    (GKI : FnOk P w K mg base CX0 j fKI dKI ["deck", "deep"] (spKI n)) (bKI : Binds K dKI ["deck", "deep"] []) (kKI : PySem.W.keepIn K (.ref fKI) = true) (mKI : mg "_law_kind" = some (.ref fKI))
    (m_range : mg "range" = none) (m_list : mg "list" = none) (m_zip : mg "zip" = none) (m_len : mg "len" = none) (h2 : 2 ≤ j) : FnOk P w K mg base CX0 (j + 1) f fd ["deck", "deep"] (spKI (n + 1)) := by
  refine F.ok sc_law_kind (fun vs H Q E h => ?_) (fun cdv A outer s H vs Q E hr h => ?_)
  · obtain ⟨p, d, rfl, _⟩ := h
    rfl
  obtain ⟨p, d, rfl, hp, hd1, hdn, q⟩ := h
  have h1 : 1 ≤ j := Nat.le_trans (by decide) h2
  refine ⟨_, (pss_cons (ps_set (i := 2) sc_law_kind.nd rfl (Or.inl rfl) (pe_op op_mod (pe_call GNX (hr.mono h1) rfl mNX kNX bNX .nil pass0 (pa_cons (pv 0) pa_nil)) pe_int))
    (pss_cons (ps_if (PW.pt (pw_or (pt_cmpR op_lt (pv 1) pe_int (nomark _)) (pw_or1 (pt_cmpR op_lt (pv 2) pe_int (nomark _))))) (pss_one (ps_ret (pe_tup (pa_cons pe_str (pa_cons (pe_op op_add pe_int (pe_op op_mod (pe_call GNX (hr.mono h1) rfl mNX kNX bNX .nil pass0 (pa_cons (pv 0) pa_nil)) pe_int)) (pa_cons (pe_ix ix_list (pe_lst (pa_cons pe_int (pa_cons pe_int (pa_cons pe_int (pa_cons pe_int pa_nil))))) (pe_op op_mod (pe_call GNX (hr.mono h1) rfl mNX kNX bNX .nil pass0 (pa_cons (pv 0) pa_nil)) pe_int) (fun _ _ => rfl)) pa_nil)))))) pss_nil)
    (pss_cons (ps_if (pt_cmpR op_lt (pv 2) pe_int (nomark _)) (pss_one (ps_ret (pe_tup (pa_cons pe_str (pa_cons (pe_call GKI hr rfl mKI kKI bKI .nil pass0 (pa_cons (pv 0) (pa_cons (pe_op op_sub (pv 1) pe_int) pa_nil))) (pa_cons (pe_op op_add pe_int (pe_op op_mod (pe_call GNX (hr.mono h1) rfl mNX kNX bNX .nil pass0 (pa_cons (pv 0) pa_nil)) (pe_ix ix_list (pe_lst (pa_cons pe_int (pa_cons pe_int pa_nil))) (pe_op op_mod (pe_call GNX (hr.mono h1) rfl mNX kNX bNX .nil pass0 (pa_cons (pv 0) pa_nil)) pe_int) (fun _ _ => rfl)))) pa_nil)))))) pss_nil)
    (pss_cons (ps_setC (i := 3) sc_law_kind.nd rfl rfl (dsc := defScope s_law_kind) (N := ["deck", "deep", "way", "kinds"]) (tgs := ["k"]) (outs := [0, 1]) (N' := ["k", "deck", "deep"]) ⟨rfl, by decide +kernel, by decide +kernel, by decide +kernel, rfl, by decide +kernel, by decide +kernel, by decide +kernel⟩ (pi_range1 rfl m_range (pa_cons (pe_op op_add pe_int (pe_op op_mod (pe_call GNX (hr.mono h1) rfl mNX kNX bNX .nil pass0 (pa_cons (pv 0) pa_nil)) pe_int)) pa_nil)) (fun _ _ _ _ _ => (pg_name (i := 0) (show (["k", "deck", "deep"] : List Str).Nodup by decide +kernel) rfl (Or.inl rfl) (.inr rfl))) (tgt_name (by decide)) (fun _ _ _ _ _ => pcs_nil) (fun _ _ _ _ _ => (pe_call GKI hr rfl mKI kKI bKI .nil pass0 (pa_cons (pv 1) (pa_cons (pe_op op_sub (pv 2) pe_int) pa_nil)))))
    (pss_cons (ps_if (pt_cmpR op_lt (pv 2) pe_int (nomark _)) (pss_one (ps_ret (pe_tup (pa_cons pe_str (pa_cons (pe_listZip (t1 := false) (t2 := false) rfl rfl m_list rfl m_zip (pa_cons (pe_call GNA (hr.mono h2) rfl mNA kNA bNA .nil pass0 (pa_cons (pv 0) (pa_cons (pe_callB call_len_seq rfl m_len PySem.boot_len (pa_cons (pv 3) pa_nil)) pa_nil))) (pa_cons (pv 3) pa_nil))) pa_nil))))) pss_nil)
    (pss_one (ps_ret (pe_tup (pa_cons pe_str (pa_cons (pv 3) pa_nil)))))))))), ?_⟩
  refine ⟨_, rfl, p, rfl, hp, fun w0 H1 w00 w01 e1 hP1 => ⟨_, _, rfl, rfl, (by show (0 : Int) < 8; decide), ?_⟩⟩
  have y0 : (0 : Int) ≤ w0 % 8 := Int.emod_nonneg _ (by decide)
  have y1 : w0 % 8 < 8 := Int.emod_lt_of_pos _ (by decide)
  refine ⟨_, rfl, _, _, rfl, rfl, _, rfl, ite2 (fun c => iteT ?_) (fun c => ⟨_, rfl, _, _, rfl, rfl, _, rfl, ite2 (fun c2 => ?_) (fun c2 => ?_)⟩)⟩
  · refine ⟨_, rfl, p, rfl, hP1, fun r2 H2 r20 r21 e2 hP2 => ⟨_, _, rfl, rfl, (by show (0 : Int) < 8; decide), _, _, rfl, rfl, lists3 4 (by decide), fun s0 hs0 => ⟨_, rfl, p, rfl, hP2.same (same_new hs0 _), fun r3 H3 r30 r31 e3 hP3 => ?_⟩⟩⟩
    have a0 : (0 : Int) ≤ r2 % 8 := Int.emod_nonneg _ (by decide)
    have a1 : r2 % 8 < 8 := Int.emod_lt_of_pos _ (by decide)
    have b0 : (0 : Int) ≤ r3 % 4 := Int.emod_nonneg _ (by decide)
    have b1 : r3 % 4 < 4 := Int.emod_lt_of_pos _ (by decide)
    obtain ⟨v, hv, hvm⟩ := atI_in (xs := [V.int 1, V.int 2, V.int 4, V.int 8]) b0 b1
    obtain ⟨m, rfl, hm⟩ := four_in hvm
    refine ⟨_, _, rfl, rfl, (by show (0 : Int) < 4; decide), s0, _, _, _, rfl, rfl, SqL.of (e3.get (hP2.ne hs0) upd_same), hv, lists3 3 (by decide), fun t ht => ?_⟩
    exact q (.num (1 + r2 % 8) m) (.ref t) _ ((((e1.trans e2).trans (SameX.of (same_new hs0 _))).trans e3).trans (SameX.of (same_new ht _))) (num_is (hP3.ne ht) upd_same) ⟨by omega, by omega, hm⟩ (by show ((1 : Nat) : Int) ≤ d; omega) (hP3.same (same_new ht _))
  · refine ⟨_, rfl, p, rfl, hP1, fun r2 H2 r20 r21 e2 hP2 => ⟨_, _, rfl, rfl, (by show (0 : Int) < 8; decide), _, _, rfl, rfl, lists3 4 (by decide), fun s0 hs0 => ⟨_, rfl, p, rfl, hP2.same (same_new hs0 _), fun r3 H3 r30 r31 e3 hP3 => ?_⟩⟩⟩
    have a0 : (0 : Int) ≤ r2 % 8 := Int.emod_nonneg _ (by decide)
    have a1 : r2 % 8 < 8 := Int.emod_lt_of_pos _ (by decide)
    have b0 : (0 : Int) ≤ r3 % 4 := Int.emod_nonneg _ (by decide)
    have b1 : r3 % 4 < 4 := Int.emod_lt_of_pos _ (by decide)
    obtain ⟨v, hv, hvm⟩ := atI_in (xs := [V.int 1, V.int 2, V.int 4, V.int 8]) b0 b1
    obtain ⟨m, rfl, hm⟩ := four_in hvm
    refine ⟨_, _, rfl, rfl, (by show (0 : Int) < 4; decide), s0, _, _, _, rfl, rfl, SqL.of (e3.get (hP2.ne hs0) upd_same), hv, lists3 3 (by decide), fun t ht => ?_⟩
    exact q (.num (1 + r2 % 8) m) (.ref t) _ ((((e1.trans e2).trans (SameX.of (same_new hs0 _))).trans e3).trans (SameX.of (same_new ht _))) (num_is (hP3.ne ht) upd_same) ⟨by omega, by omega, hm⟩ (by show ((1 : Nat) : Int) ≤ d; omega) (hP3.same (same_new ht _))
  have hd2 : ¬ d < 2 := fun z => c (decide_eq_true z)
  have hw3 : ¬ (w0 % 8) < 3 := fun z => c2 (decide_eq_true z)
  refine ⟨_, rfl, _, _, rfl, rfl, _, rfl, ite2 (fun c3 => ?_) (fun c3 => ?_)⟩
  · -- a row
    refine ⟨_, rfl, _, rfl, _, _, rfl, rfl, p, d - 1, rfl, hP1, by omega, by omega, fun kd v H2 e2 hD hF hdp hP2 => ?_⟩
    refine ⟨_, rfl, p, rfl, hP2, fun r3 H3 r30 r31 e3 hP3 => ⟨lists3 2 (by decide), fun s0 hs0 => ⟨_, rfl, p, rfl, hP3.same (same_new hs0 _), fun r4 H4 r40 r41 e4 hP4 => ?_⟩⟩⟩
    have b0 : (0 : Int) ≤ r4 % 2 := Int.emod_nonneg _ (by decide)
    have b1 : r4 % 2 < 2 := Int.emod_lt_of_pos _ (by decide)
    obtain ⟨vz, hv, hvm⟩ := atI_in (xs := [V.int 4, V.int 20]) b0 b1
    obtain ⟨z, rfl, hz⟩ := two_of hvm
    have z0 : 0 < z := by omega
    have g0 : (0 : Int) ≤ r3 % z := Int.emod_nonneg _ (by omega)
    have g1 : r3 % z < z := Int.emod_lt_of_pos _ z0
    refine ⟨_, _, rfl, rfl, (by show (0 : Int) < 2; decide), s0, _, _, _, rfl, rfl, SqL.of (e4.get (hP3.ne hs0) upd_same), hv, _, _, rfl, rfl, z0, _, _, rfl, rfl, lists3 3 (by decide), fun t ht => ?_⟩
    have eR : SameX p H2 (upd H4 t (.tup [.str "row", v, .int (1 + r3 % z)])) := ((e3.trans (SameX.of (same_new hs0 _))).trans e4).trans (SameX.of (same_new ht _))
    refine q (.row kd (1 + r3 % z)) (.ref t) _ ((e1.trans e2).trans eR) (row_is (hP4.ne ht) upd_same (hD.same eR)) ⟨hF, by omega, by omega⟩ ?_ (hP4.same (same_new ht _))
    show ((kd.deep + 1 : Nat) : Int) ≤ d
    omega
  have hw5 : ¬ (w0 % 8) < 5 := fun z => c3 (decide_eq_true z)
  refine ⟨_, rfl, p, rfl, hP1, fun r2 H2 r20 r21 e2 hP2 => ?_⟩
  have g0 : (0 : Int) ≤ r2 % 4 := Int.emod_nonneg _ (by decide)
  have g1 : r2 % 4 < 4 := Int.emod_lt_of_pos _ (by decide)
  refine ⟨_, _, rfl, rfl, (by show (0 : Int) < 4; decide), _, _, rfl, rfl, 1 + r2 % 4, rfl, by omega, by omega, ?_⟩
  have e12 : SameX p H H2 := e1.trans e2
  refine comp_range (n := (1 + r2 % 4).toNat) (fun i acc H' => ∃ ks : List Kd, ks.length = i ∧ IsDs (hide p H') (dtK ks) acc ∧ fitK ks ∧ deepK ks ≤ (d - 1).toNat ∧ SameX p H H' ∧ DeckAt p H') (by omega) ⟨[], rfl, rfl, trivial, Nat.zero_le _, e12, hP2⟩ (fun i acc H' hi ⟨ks, ef, eD, _⟩ => ?_) (fun i acc H' hi ⟨ks, ef, eD, eF, edp, eS, eP⟩ => ?_) (fun acc H' ⟨ks, ef, eD, eF, edp, eS, eP⟩ l2 hn2 => ?_)
  · rw [eD.len, dtK_len]
    omega
  · refine nameYes ?_
    refine ⟨_, rfl, _, rfl, _, _, rfl, rfl, p, d - 1, rfl, eP, by omega, by omega, fun kd v H6 e6 hD hF hdp hP6 => ?_⟩
    refine ⟨ks ++ [kd], by rw [List.length_append, ef]; rfl, ?_, fitK_snoc eF hF, deepK_snoc edp (by omega), eS.trans e6, hP6⟩
    rw [dtK_snoc]
    exact (eD.same e6).snoc hD
  have hl2 : l2 ≠ p := eP.ne hn2
  have eP2 := eP.same (same_new hn2 (.lst acc))
  have e3 : SameX p H (upd H' l2 (.lst acc)) := eS.trans (SameX.of (same_new hn2 _))
  have eD2 : IsDs (hide p (upd H' l2 (.lst acc))) (dtK ks) acc := eD.same (SameX.of (same_new hn2 _))
  have hl22 : (upd H' l2 (.lst acc)) l2 = some (.lst acc) := upd_same
  have hal : acc.length = ks.length := by rw [eD.len, dtK_len]
  generalize upd H' l2 (.lst acc) = H3 at eP2 e3 eD2 hl22
  refine ⟨_, rfl, _, _, rfl, rfl, _, rfl, ite2 (fun c4 => ?_) (fun c4 => ?_)⟩
  · -- a record
    have hw7 : (w0 % 8) < 7 := of_decide_eq_true c4
    refine ⟨_, rfl, _, rfl, l2, _, rfl, .inl (SqL.of hl22), p, _, rfl, eP2, by omega, by omega, fun ln xs H6 hlp hl0 hl hxl hnd hnm e6 hP6 => ?_⟩
    have hl26 := e6.get hl2 hl22
    have hxk : xs.length = ks.length := by omega
    refine ⟨_, rfl, ln, l2, _, _, rfl, SqL.of hl, SqL.of hl26, by rw [List.length_map]; omega, fun lz zs H7 e7 hz0 hz hzl hpr => ⟨lists3 2 (by decide), fun t ht => ?_⟩⟩
    rw [List.length_map] at hzl
    have hP7 := hP6.same e7
    have hlzp : lz ≠ p := hP6.ne hz0
    have htp : t ≠ p := hP7.ne ht
    have e8 : Same H7 (upd H7 t (.tup [.str "record", .ref lz])) := same_new ht _
    have hfs : IsDs (hide p H7) (dtF (xs.zip ks)) zs := by
      refine pairs_is ((eD2.same e6).same (SameX.of e7)) hxk hzl fun j x y e1 e2 => ?_
      obtain ⟨T, a, b⟩ := hpr j x y e1 e2
      refine ⟨T, a, ?_⟩
      obtain ⟨ns, a1, _⟩ := hP7
      rw [hide_ne (fun e => by rw [e, a1] at b; cases b)]
      exact b
    have hlf : (xs.zip ks).length = ks.length := by rw [List.length_zip]; omega
    refine q (.rcd (xs.zip ks)) (.ref t) _ ((e3.trans e6).trans (SameX.of (e7.trans e8))) (rcd_is htp hlzp upd_same (e8 _ _ hz) (hfs.same (SameX.of e8))) ⟨zip_fit eF hnm, by omega, by omega, by rw [zip_fst hxk]; exact hnd⟩ ?_ (hP7.same e8)
    have := zip_deep (xs := xs) (ks := ks)
    show ((deepF (xs.zip ks) + 1 : Nat) : Int) ≤ d
    omega
  · -- a choice
    have hw7 : ¬ (w0 % 8) < 7 := fun z => c4 (decide_eq_true z)
    refine ⟨_, rfl, lists3 2 (by decide), fun t ht => ?_⟩
    have e8 : Same H3 (upd H3 t (.tup [.str "choice", .ref l2])) := same_new ht _
    refine q (.cho ks) (.ref t) _ (e3.trans (SameX.of e8)) (cho_is (eP2.ne ht) hl2 upd_same (e8 _ _ hl22) (eD2.same (SameX.of e8))) ⟨eF, by omega, by omega⟩ ?_ (eP2.same e8)
    show ((deepK ks + 1 : Nat) : Int) ≤ d
    omega
theorem ki_none : FnOk P w K mg base CX0 j f fd ["deck", "deep"] (spKI 0) := by
  have no : ∀ vs H Q E, ¬ spKI 0 vs H Q E := fun vs H Q E h => by
    obtain ⟨p, d, _, _, h1, h2, _⟩ := h
    have : d ≤ 0 := h2
    omega
  exact ⟨fun vs H Q E h => absurd h (no vs H Q E), fun A outer s H args us vs Q E _ _ _ _ h => absurd h (no vs H Q E)⟩
end

def spRM (n : Nat) : Sp := fun vs H Q _ => ∃ (kd : Kd) (v : V), vs = [v] ∧ IsD H kd.dt v ∧ kd.Ok ∧ kd.Full ∧ kd.deep ≤ n ∧ n ≤ 12 ∧ ∀ p H', Same H H' → H' p = some (.tup [.int kd.rm.1, .int kd.rm.2]) → Q (.ref p) H'
def spBO : Sp := fun vs H Q _ => ∃ (p : Addr) (d m : Int), vs = [.ref p, .int d, .int m] ∧ DeckAt p H ∧ 1 ≤ d ∧ d ≤ 5 ∧ 8 ≤ m ∧
  ∀ (kd : Kd) (v : V) (H' : Hp), SameX p H H' → IsD (hide p H') kd.dt v → kd.Fit → (kd.deep : Int) ≤ d → kd.rm.1 ≤ m → DeckAt p H' → Q v H'
def spFI : Sp := fun vs H Q _ => ∃ (p : Addr) (most d m : Int), vs = [.ref p, .int most, .int d, .int m] ∧ DeckAt p H ∧ 1 ≤ d ∧ d ≤ 5 ∧ 8 ≤ m ∧ 1 ≤ most ∧ most ≤ 8 ∧
  ∀ (fs : List (Str × Kd)) (v : V) (H' : Hp), SameX p H H' → IsD (hide p H') (.lst (dtF fs)) v → fitF fs → (deepF fs : Int) ≤ d → (∀ f ∈ fs, f.2.rm.1 ≤ m) → 1 ≤ fs.length → (fs.length : Int) ≤ most → (fs.map (·.1)).Nodup → DeckAt p H' → Q v H'
theorem rmK_map : ∀ fs : List (Str × Kd), rmK (fs.map (·.2)) = rmF fs
  | [] => rfl
  | f :: r => by show _ :: rmK (r.map _) = _ :: _; rw [rmK_map r]
theorem okK_map : ∀ {fs : List (Str × Kd)}, okF fs → okK (fs.map (·.2))
  | [], _ => trivial
  | f :: r, h => ⟨h.1, okK_map h.2⟩
theorem fullK_map : ∀ {fs : List (Str × Kd)}, fullF fs → fullK (fs.map (·.2))
  | [], _ => trivial
  | f :: r, h => ⟨h.1, fullK_map h.2⟩
theorem deepK_map : ∀ fs : List (Str × Kd), deepK (fs.map (·.2)) = deepF fs
  | [] => rfl
  | f :: r => by show max _ (deepK (r.map _)) = max _ _; rw [deepK_map r]
theorem dtK_take_snoc {ks : List Kd} {i : Nat} {k : Kd} (h : ks[i]? = some k) : dtK (ks.take (i + 1)) = dtK (ks.take i) ++ [k.dt] := by
  rw [take_snoc h, dtK_snoc]
section
variable {P : Program} {w : World} {K : PySem.W.Frag} {mg : Str → Option Value} {base : Heap} {f fNX fNA fKI fUP fRM fBO : Addr} {fd dNX dNA dKI dUP dRM dBO : FuncData} {n j j2 : Nat}
theorem ok_up (F : Fun K "_law_up" "_law_up" s_law_up f fd) : FnOk P w K mg base CX0 1 f fd ["number", "m"] spRU := by
  refine F.ok sc_law_up (fun vs H Q E h => ?_) (fun cdv A outer s H vs Q E hr h => ?_)
  · obtain ⟨n, m, rfl, _⟩ := h
    rfl
  obtain ⟨n, m, rfl, h0, h1, h2, h3, q⟩ := h
  refine ⟨_, pss_one (ps_ret (pe_op op_mulB (pe_op op_fdivB (pe_op op_sub (pe_op op_add (pv 0) (pv 1)) pe_int) (pv 1)) (pv 1))), ?_⟩
  have d0 : 0 ≤ (n + m - 1) / m := Int.ediv_nonneg (by omega) (by omega)
  have d1 : (n + m - 1) / m ≤ n + m - 1 := Int.ediv_le_self m (by omega)
  refine ⟨_, rfl, _, rfl, _, _, rfl, rfl, _, _, rfl, rfl, _, rfl, _, _, rfl, rfl, ⟨h2, by omega⟩, _, rfl, _, _, rfl, rfl, ⟨?_, ?_⟩, q⟩
  · generalize (n + m - 1) / m = z at d0 d1
    omega
  · omega
set_option maxHeartbeats 16000000 in
theorem ok_rm (F : Fun K "_law_room" "_law_room" s_law_room f fd) (GRM : FnOk P w K mg base CX0 j fRM dRM ["kind"] (spRM n)) (bRM : Binds K dRM ["kind"] []) (kRM : PySem.W.keepIn K (.ref fRM) = true) (mRM : mg "_law_room" = some (.ref fRM))
    (GUP : FnOk P w K mg base CX0 1 fUP dUP ["number", "m"] spRU) (bUP : Binds K dUP ["number", "m"] []) (kUP : PySem.W.keepIn K (.ref fUP) = true) (mUP : mg "_law_up" = some (.ref fUP)) (m_max : mg "max" = none) (hj : 1 ≤ j) :
    FnOk P w K mg base CX0 (j + 1) f fd ["kind"] (spRM (n + 1)) := by
  refine F.ok sc_law_room (fun vs H Q E h => ?_) (fun cdv A outer s H vs Q E hr h => ?_)
  · obtain ⟨kd, v, rfl, _⟩ := h
    rfl
  obtain ⟨kd, v, rfl, hv, hk, hf, hdp, hn, q⟩ := h
  have n1 : ∀ {x y : Str}, (x == y) = false → ¬ (V.str x = V.str y) := fun h => str_ne h
  refine ⟨_, (pss_cons (ps_if (pt_cmpR op_eq (pe_ix ix_tup (pv 0) pe_int (fun _ _ => rfl)) pe_str (nomark _)) (pss_one (ps_ret (pe_tup (pa_cons (pe_ix ix_tup (pv 0) pe_int (fun _ _ => rfl)) (pa_cons (pe_ix ix_tup (pv 0) pe_int (fun _ _ => rfl)) pa_nil))))) pss_nil)
    (pss_cons (ps_if (pt_cmpR op_eq (pe_ix ix_tup (pv 0) pe_int (fun _ _ => rfl)) pe_str (nomark _)) (pss_cons (ps_asg (pe_call GRM hr rfl mRM kRM bRM .nil pass0 (pa_cons (pe_ix ix_tup (pv 0) pe_int (fun _ _ => rfl)) pa_nil)) (pg_tup rfl (pgs_cons (pg_name (i := 1) sc_law_room.nd rfl (Or.inl rfl)) (pgs_cons (pg_name (i := 2) sc_law_room.nd rfl (Or.inl rfl)) pgs_nil))))
    (pss_one (ps_ret (pe_tup (pa_cons (pe_op op_mulB (pe_ix ix_tup (pv 0) pe_int (fun _ _ => rfl)) (pe_call GUP (hr.mono hj) rfl mUP kUP bUP .nil pass0 (pa_cons (pv 1) (pa_cons (pv 2) pa_nil)))) (pa_cons (pv 2) pa_nil)))))) pss_nil)
    (pss_cons (ps_set (i := 3) sc_law_room.nd rfl (Or.inl rfl) (pe_ix ix_tup (pv 0) pe_int (fun _ _ => rfl)))
    (pss_cons (ps_mid (ps_if (pt_cmpR op_eq (pe_ix ix_tup (pv 0) pe_int (fun _ _ => rfl)) pe_str (nomark _)) (pss_one (ps_setC (i := 3) sc_law_room.nd rfl rfl (dsc := defScope s_law_room) (N := ["kind", "room", "m", "parts", "sizes", "end", "other"]) (tgs := ["name", "part"]) (outs := []) (N' := ["name", "part"]) ⟨rfl, by decide +kernel, by decide +kernel, by decide +kernel, rfl, by decide +kernel, by decide +kernel, by decide +kernel⟩ (pi_list (pe_ix ix_tup (pv 0) pe_int (fun _ _ => rfl))) (fun _ _ _ _ _ => (pg_tupK K (n := 2) rfl rfl (pgs_cons (pg_name (i := 0) (show (["name", "part"] : List Str).Nodup by decide +kernel) rfl (Or.inl rfl) (.inr rfl)) (pgs_cons (pg_name (i := 1) (show (["name", "part"] : List Str).Nodup by decide +kernel) rfl (Or.inl rfl) (.inr rfl)) pgs_nil)))) (tgt_tup (tgts_name (by decide) (tgts_name (by decide) tgts_nil tmono_nil) (tmono_name tmono_nil))) (fun _ _ _ _ _ => pcs_nil) (fun _ _ _ _ _ => (pv 1)))) pss_nil))
    (pss_cons (ps_setC (i := 4) sc_law_room.nd rfl rfl (dsc := defScope s_law_room) (N := ["kind", "room", "m", "parts", "sizes", "end", "other"]) (tgs := ["part"]) (outs := []) (N' := ["part"]) ⟨rfl, by decide +kernel, by decide +kernel, by decide +kernel, rfl, by decide +kernel, by decide +kernel, by decide +kernel⟩ (pi_list (pv 3)) (fun _ _ _ _ _ => (pg_name (i := 0) (show (["part"] : List Str).Nodup by decide +kernel) rfl (Or.inl rfl) (.inr rfl))) (tgt_name (by decide)) (fun _ _ _ _ _ => pcs_nil) (fun _ _ _ _ _ => (pe_call GRM hr rfl mRM kRM bRM .nil pass0 (pa_cons (pv 0) pa_nil))))
    (pss_cons (ps_set (i := 2) sc_law_room.nd rfl (Or.inl rfl) (pe_callB (call_maxL rfl) rfl m_max bt_max (pa_cons (pe_comp (dsc := defScope s_law_room) (N := ["kind", "room", "m", "parts", "sizes", "end", "other"]) (tgs := ["size"]) (outs := []) (N' := ["size"]) ⟨rfl, by decide +kernel, by decide +kernel, by decide +kernel, rfl, by decide +kernel, by decide +kernel, by decide +kernel⟩ (pi_list (pv 4)) (fun _ _ _ _ _ => (pg_name (i := 0) (show (["size"] : List Str).Nodup by decide +kernel) rfl (Or.inl rfl) (.inr rfl))) (tgt_name (by decide)) (fun _ _ _ _ _ => pcs_nil) (fun _ _ _ _ _ => (pe_ix (ix_tupK K) (pv 0) pe_int (fun _ _ => rfl)))) pa_nil)))
    (pss_cons (ps_if (pt_cmpR op_eq (pe_ix ix_tup (pv 0) pe_int (fun _ _ => rfl)) pe_str (nomark _)) (pss_one (ps_ret (pe_tup (pa_cons (pe_call GUP (hr.mono hj) rfl mUP kUP bUP .nil pass0 (pa_cons (pe_op op_add (pv 2) (pe_callB (call_maxL rfl) rfl m_max bt_max (pa_cons (pe_comp (dsc := defScope s_law_room) (N := ["kind", "room", "m", "parts", "sizes", "end", "other"]) (tgs := ["size"]) (outs := []) (N' := ["size"]) ⟨rfl, by decide +kernel, by decide +kernel, by decide +kernel, rfl, by decide +kernel, by decide +kernel, by decide +kernel⟩ (pi_list (pv 4)) (fun _ _ _ _ _ => (pg_name (i := 0) (show (["size"] : List Str).Nodup by decide +kernel) rfl (Or.inl rfl) (.inr rfl))) (tgt_name (by decide)) (fun _ _ _ _ _ => pcs_nil) (fun _ _ _ _ _ => (pe_ix (ix_tupK K) (pv 0) pe_int (fun _ _ => rfl)))) pa_nil))) (pa_cons (pv 2) pa_nil))) (pa_cons (pv 2) pa_nil))))) pss_nil)
    (pss_cons (ps_set (i := 5) sc_law_room.nd rfl (Or.inl rfl) pe_int)
    (pss_cons (ps_for PassesOwn.never rfl (pi_list (pv 4)) (pg_tup rfl (pgs_cons (pg_name (i := 1) sc_law_room.nd rfl (Or.inl rfl)) (pgs_cons (pg_name (i := 6) sc_law_room.nd rfl (Or.inl rfl)) pgs_nil))) (pss_one (ps_set (i := 5) sc_law_room.nd rfl (Or.inl rfl) (pe_op op_add (pe_call GUP (hr.mono hj) rfl mUP kUP bUP .nil pass0 (pa_cons (pv 5) (pa_cons (pv 6) pa_nil))) (pv 1)))))
    (pss_one (ps_ret (pe_tup (pa_cons (pe_call GUP (hr.mono hj) rfl mUP kUP bUP .nil pass0 (pa_cons (pv 5) (pa_cons (pv 2) pa_nil))) (pa_cons (pv 2) pa_nil)))))))))))))), ?_⟩
  cases kd with
  | num wd m =>
    obtain ⟨p, ys, rfl, hp, v1, r1, rfl, rfl, v2, r2, rfl, rfl, v3, r3, rfl, rfl, rfl⟩ := hv
    refine ⟨_, rfl, p, _, _, _, rfl, rfl, SqT.of hp, rfl, rfl, _, rfl, iteDT rfl ?_⟩
    exact ⟨_, rfl, p, _, _, _, rfl, rfl, SqT.of hp, rfl, _, rfl, p, _, _, _, rfl, rfl, SqT.of hp, rfl, lists3 2 (by decide), fun p2 n2 => q p2 _ (same_new n2 _) upd_same⟩
  | row k m =>
    obtain ⟨p, ys, rfl, hp, v1, r1, rfl, rfl, v2, r2, rfl, hv2, v3, r3, rfl, rfl, rfl⟩ := hv
    have hdp' : k.deep + 1 ≤ n + 1 := hdp
    obtain ⟨b0, b1, b2, b3⟩ := bd12 (n := n) hk.1 (by omega) (by omega)
    obtain ⟨u1, u2⟩ := up_bounds (n := k.rm.1) (m := k.rm.2) (by omega)
    have hm := hk.2
    refine ⟨_, rfl, p, _, _, _, rfl, rfl, SqT.of hp, rfl, rfl, _, rfl, iteND (n1 (by decide +kernel)) ?_⟩
    refine ⟨_, rfl, p, _, _, _, rfl, rfl, SqT.of hp, rfl, rfl, _, rfl, iteDT rfl ?_⟩
    refine ⟨_, rfl, p, _, _, _, rfl, rfl, SqT.of hp, rfl, k, v2, rfl, hv2, hk.1, hf, by omega, by omega, fun l H1 e1 hl => ?_⟩
    refine ⟨l, _, rfl, SqT.of hl, rfl, _, _, rfl, _, _, rfl, rfl, ?_⟩
    refine ⟨_, rfl, p, _, _, _, rfl, rfl, SqT.of (e1 _ _ hp), rfl, _, rfl, _, rfl, _, _, rfl, b0, by omega, by omega, by omega, _, _, rfl, rfl, ⟨by omega, by omega⟩, _, rfl, lists3 2 (by decide), fun p2 n2 => ?_⟩
    exact q p2 _ (e1.trans (same_new n2 _)) upd_same
  | rcd fs =>
    obtain ⟨p, ys, rfl, hp, v1, r1, rfl, rfl, v2, r2, rfl, ⟨l, zs, rfl, hl, hzs⟩, rfl⟩ := hv
    refine ⟨_, rfl, p, _, _, _, rfl, rfl, SqT.of hp, rfl, rfl, _, rfl, iteND (n1 (by decide +kernel)) ?_⟩
    refine ⟨_, rfl, p, _, _, _, rfl, rfl, SqT.of hp, rfl, rfl, _, rfl, iteND (n1 (by decide +kernel)) ?_⟩
    have hdp' : deepF fs + 1 ≤ n + 1 := hdp
    have hlz : zs.length = fs.length := by rw [hzs.len, dtF_len]
    have hlf := hk.2
    refine ⟨_, rfl, p, _, _, _, rfl, rfl, SqT.of hp, rfl, ?_⟩
    have hlm : (fs.map (·.2)).length = fs.length := List.length_map _
    refine ⟨fun σ H' => ∃ lp ws, σ = [some (.ref p), none, none, some (.ref lp), none, none, none] ∧ Same H H' ∧ H' lp = some (.lst ws) ∧ IsDs H' (dtK (fs.map (·.2))) ws, ?_, ?_⟩
    · refine ⟨_, rfl, p, _, _, _, rfl, rfl, SqT.of hp, rfl, rfl, _, rfl, iteDT rfl ?_⟩
      refine ⟨_, rfl, p, _, _, _, rfl, rfl, SqT.of hp, rfl, l, rfl, ⟨_, SqL.of hl⟩, ?_⟩
      refine comp_list (xs := zs) (fun i acc H' => Same H H' ∧ IsDs H' (dtK ((fs.map (·.2)).take i)) acc) (by omega) ⟨Same.refl _, rfl⟩ (fun i acc H' hi ⟨e, ea⟩ => ⟨SqL.of (e _ _ hl), by rw [ea.len, dtK_len, List.length_take]; omega⟩) (fun i x acc H' hx ⟨e, ea⟩ => ?_) (fun acc H' ⟨e, ea⟩ lp hlp => ?_)
      · obtain ⟨g, t, v, eg, rfl, ht, hv⟩ := fields_at hzs hx
        refine ⟨t, _, rfl, SqT.of (e _ _ ht), rfl, _, _, rfl, _, _, rfl, rfl, ?_⟩
        refine yesT ?_
        refine ⟨_, rfl, e, ?_⟩
        rw [dtK_take_snoc (k := g.2) (by rw [List.getElem?_map, eg]; rfl)]
        exact ea.snoc (hv.same e)
      · rw [hlz, ← hlm, List.take_length] at ea
        exact ⟨lp, acc, rfl, e.trans (same_new hlp _), upd_same, ea.same (same_new hlp _)⟩
    rintro σ1 H1 ⟨lp, ws, rfl, e1, hlp, hws⟩
    have hok : okK (fs.map (·.2)) := okK_map hk.1
    have hfu : fullK (fs.map (·.2)) := fullK_map hf.2
    have hdk : deepK (fs.map (·.2)) ≤ n := by rw [deepK_map]; omega
    have hks : fs.map (·.2) ≠ [] := fun z => hf.1 (List.map_eq_nil_iff.mp z)
    have hrm : (Kd.rcd fs).rm = rcdRm (rmK (fs.map (·.2))) := by rw [rmK_map]; rfl
    have hkl : (fs.map (·.2)).length ≤ 10 := by omega
    rw [hrm] at q
    clear hrm hlm
    generalize fs.map (·.2) = ks at hws hok hfu hdk hks q hkl
    have hlw : ws.length = ks.length := by rw [hws.len, dtK_len]
    have hlr : (rmK ks).length = ks.length := lenK ks
    have hb := bdK12 (n := n) hok (by omega) (by omega)
    have hne : rmK ks ≠ [] := fun z => hks (List.eq_nil_of_length_eq_zero (by rw [← hlr, z]; rfl))
    obtain ⟨x0, x1⟩ := mx_bd hb
    refine ⟨_, rfl, lp, rfl, ⟨_, SqL.of hlp⟩, ?_⟩
    refine comp_list (xs := ws) (fun i acc H' => Same H1 H' ∧ IsDs H' (((rmK ks).take i).map rdt) acc) (by omega) ⟨Same.refl _, rfl⟩ (fun i acc H' hi ⟨e, ea⟩ => ⟨SqL.of (e _ _ hlp), by rw [ea.len, List.length_map, List.length_take]; omega⟩) (fun i x acc H' hx ⟨e, ea⟩ => ?_) (fun acc H2 ⟨e2, ea⟩ ls hls => ?_)
    · obtain ⟨k, ek, hkx⟩ := kinds_at hws hx
      obtain ⟨ok1, ok2⟩ := ok_at hok ek
      refine nameYes ?_
      refine ⟨_, rfl, k, x, rfl, hkx.same e, ok1, fullK_at hfu ek, by omega, by omega, fun t H3 e3 ht => ⟨e.trans e3, ?_⟩⟩
      rw [take_snoc (rmK_at ek), List.map_append]
      exact IsDs.snoc (d := rdt k.rm) ⟨t, _, rfl, ht, _, _, rfl, rfl, _, _, rfl, rfl, rfl⟩ (ea.same e3)
    rw [hlw, ← hlr, List.take_length] at ea
    have e3 : Same H1 (upd H2 ls (.lst acc)) := e2.trans (same_new hls _)
    have hls3 : (upd H2 ls (.lst acc)) ls = some (.lst acc) := upd_same
    have ea3 : IsDs (upd H2 ls (.lst acc)) ((rmK ks).map rdt) acc := ea.same (same_new hls _)
    have hla : acc.length = (rmK ks).length := by rw [ea.len, List.length_map]
    generalize upd H2 ls (.lst acc) = H3 at e3 hls3 ea3
    refine ⟨_, rfl, ls, rfl, ⟨_, SqL.of hls3⟩, ?_⟩
    refine comp_list (xs := acc) (fun i acc' H' => Same H3 H' ∧ acc' = ((rmK ks).take i).map fun r => V.int r.2) (by omega) ⟨Same.refl _, rfl⟩ (fun i acc' H' hi ⟨e, ea'⟩ => ⟨SqL.of (e _ _ hls3), by rw [ea', List.length_map, List.length_take]; omega⟩) (fun i x acc' H' hx ⟨e, ea'⟩ => ?_) (fun acc' H4 ⟨e4, ea'⟩ l4 hn4 => ?_)
    · obtain ⟨r, pr, er, rfl, hpr⟩ := rooms_at ea3 hx
      refine nameYes ?_
      refine ⟨_, rfl, pr, _, _, _, rfl, rfl, SqT.of (e _ _ hpr), rfl, e, ?_⟩
      rw [ea', take_snoc er, List.map_append]
      rfl
    rw [hla, List.take_length] at ea'
    refine ⟨l4, (rmK ks).map (·.2), rfl, SqL.of (by rw [upd_same, ea', List.map_map]; rfl), fun z => hne (List.map_eq_nil_iff.mp z), fun M hM hle => ?_⟩
    obtain ⟨rM, hrM, eM⟩ := List.mem_map.mp hM
    rw [maxL_is (d := 1) hM (by rw [← eM]; exact (hb rM hrM).2.2.1) hle]
    have e5 : Same H3 (upd H4 l4 (.lst acc')) := e4.trans (same_new hn4 _)
    generalize upd H4 l4 (.lst acc') = H5 at e5
    clear hM hle eM hrM
    have e15 := (e1.trans e3).trans e5
    refine ⟨_, rfl, p, _, _, _, rfl, rfl, SqT.of (e15 _ _ hp), rfl, rfl, _, rfl, iteND (n1 (by decide +kernel)) ?_⟩
    have hls5 := e5 _ _ hls3
    have ea5 := ea3.same e5
    refine ⟨_, rfl, ls, rfl, ⟨_, SqL.of hls5⟩, ?_⟩
    refine for_list (xs := acc) (fun i σ H' => ∃ y1 y6, σ = [some (.ref p), y1, some (.int (maxL 1 ((rmK ks).map (·.2)))), some (.ref lp), some (.ref ls), some (.int (lastEnd 0 ((rmK ks).take i))), y6] ∧ H' = H5) ⟨_, _, rfl, rfl⟩ (fun i σ H' _ ⟨y1, y6, es, e⟩ => by rw [e]; exact SqL.of hls5) (fun i x σ H' hx ⟨y1, y6, es, e⟩ => ?_) (fun σ H' ⟨y1, y6, es, e⟩ => ?_)
    · subst es
      subst e
      obtain ⟨r, pr, er, rfl, hpr⟩ := rooms_at ea5 hx
      obtain ⟨b0, b1, b2, b3⟩ := hb r (List.mem_of_getElem? er)
      have bt : ∀ s ∈ (rmK ks).take i, Bd (2 ^ 150) s := fun s hs => hb s (List.mem_of_mem_take hs)
      obtain ⟨c0, c1⟩ := lastEnd_le (e := 0) (by omega) bt
      have c2 : (((rmK ks).take i).length : Int) * (2 ^ 150 + 8) ≤ 10 * (2 ^ 150 + 8) := Int.mul_le_mul_of_nonneg_right (by rw [List.length_take]; omega) (by decide)
      refine ⟨pr, _, rfl, SqT.of hpr, rfl, _, _, rfl, _, _, rfl, rfl, ?_⟩
      refine ⟨_, rfl, _, rfl, _, _, rfl, c0, by omega, by omega, by omega, _, rfl, _, _, rfl, rfl, ?_⟩
      refine ⟨some (.int r.1), some (.int r.2), ?_, rfl⟩
      rw [take_snoc er, lastEnd_snoc]
      rfl
    · rw [hla, List.take_length] at es
      subst es
      subst e
      obtain ⟨c0, c1⟩ := lastEnd_le (e := 0) (by omega) hb
      have c2 : ((rmK ks).length : Int) * (2 ^ 150 + 8) ≤ 10 * (2 ^ 150 + 8) := Int.mul_le_mul_of_nonneg_right (by omega) (by decide)
      refine ⟨_, rfl, _, rfl, _, _, rfl, c0, by omega, by omega, by omega, _, rfl, lists3 2 (by decide), fun p2 n2 => ?_⟩
      exact q p2 _ (e15.trans (same_new n2 _)) upd_same
  | cho ks =>
    obtain ⟨p, ys, rfl, hp, v1, r1, rfl, rfl, v2, r2, rfl, ⟨lp, ws, rfl, hlp0, hws0⟩, rfl⟩ := hv
    refine ⟨_, rfl, p, _, _, _, rfl, rfl, SqT.of hp, rfl, rfl, _, rfl, iteND (n1 (by decide +kernel)) ?_⟩
    refine ⟨_, rfl, p, _, _, _, rfl, rfl, SqT.of hp, rfl, rfl, _, rfl, iteND (n1 (by decide +kernel)) ?_⟩
    have hdp' : deepK ks + 1 ≤ n + 1 := hdp
    refine ⟨_, rfl, p, _, _, _, rfl, rfl, SqT.of hp, rfl, ?_⟩
    refine ⟨fun σ H' => σ = [some (.ref p), none, none, some (.ref lp), none, none, none] ∧ H' = H, ?_, ?_⟩
    · exact ⟨_, rfl, p, _, _, _, rfl, rfl, SqT.of hp, rfl, rfl, _, rfl, iteND (n1 (by decide +kernel)) ⟨rfl, rfl⟩⟩
    rintro σ1 H1 ⟨rfl, rfl⟩
    have hlp := hlp0
    have hws := hws0
    have hok : okK ks := hk.1
    have hfu : fullK ks := hf.2
    have hdk : deepK ks ≤ n := by omega
    have hks : ks ≠ [] := hf.1
    have hkl : ks.length ≤ 10 := hk.2
    have hrm : (Kd.cho ks).rm = (up (maxL 1 ((rmK ks).map (·.2)) + maxL 0 ((rmK ks).map (·.1))) (maxL 1 ((rmK ks).map (·.2))), maxL 1 ((rmK ks).map (·.2))) := by
      show choRm (rmK ks) = _
      have h := maxL_d (d := 1) ((rmK ks).map (·.2))
      show (up (up 1 (maxL 1 ((rmK ks).map (·.2))) + maxL 0 ((rmK ks).map (·.1))) (maxL 1 ((rmK ks).map (·.2))), _) = _
      rw [up_one h]
    rw [hrm] at q
    have hlw : ws.length = ks.length := by rw [hws.len, dtK_len]
    have hlr : (rmK ks).length = ks.length := lenK ks
    have hb := bdK12 (n := n) hok (by omega) (by omega)
    have hne : rmK ks ≠ [] := fun z => hks (List.eq_nil_of_length_eq_zero (by rw [← hlr, z]; rfl))
    obtain ⟨x0, x1⟩ := mx_bd hb
    refine ⟨_, rfl, lp, rfl, ⟨_, SqL.of hlp⟩, ?_⟩
    refine comp_list (xs := ws) (fun i acc H' => Same H1 H' ∧ IsDs H' (((rmK ks).take i).map rdt) acc) (by omega) ⟨Same.refl _, rfl⟩ (fun i acc H' hi ⟨e, ea⟩ => ⟨SqL.of (e _ _ hlp), by rw [ea.len, List.length_map, List.length_take]; omega⟩) (fun i x acc H' hx ⟨e, ea⟩ => ?_) (fun acc H2 ⟨e2, ea⟩ ls hls => ?_)
    · obtain ⟨k, ek, hkx⟩ := kinds_at hws hx
      obtain ⟨ok1, ok2⟩ := ok_at hok ek
      refine nameYes ?_
      refine ⟨_, rfl, k, x, rfl, hkx.same e, ok1, fullK_at hfu ek, by omega, by omega, fun t H3 e3 ht => ⟨e.trans e3, ?_⟩⟩
      rw [take_snoc (rmK_at ek), List.map_append]
      exact IsDs.snoc (d := rdt k.rm) ⟨t, _, rfl, ht, _, _, rfl, rfl, _, _, rfl, rfl, rfl⟩ (ea.same e3)
    rw [hlw, ← hlr, List.take_length] at ea
    have e3 : Same H1 (upd H2 ls (.lst acc)) := e2.trans (same_new hls _)
    have hls3 : (upd H2 ls (.lst acc)) ls = some (.lst acc) := upd_same
    have ea3 : IsDs (upd H2 ls (.lst acc)) ((rmK ks).map rdt) acc := ea.same (same_new hls _)
    have hla : acc.length = (rmK ks).length := by rw [ea.len, List.length_map]
    generalize upd H2 ls (.lst acc) = H3 at e3 hls3 ea3
    refine ⟨_, rfl, ls, rfl, ⟨_, SqL.of hls3⟩, ?_⟩
    refine comp_list (xs := acc) (fun i acc' H' => Same H3 H' ∧ acc' = ((rmK ks).take i).map fun r => V.int r.2) (by omega) ⟨Same.refl _, rfl⟩ (fun i acc' H' hi ⟨e, ea'⟩ => ⟨SqL.of (e _ _ hls3), by rw [ea', List.length_map, List.length_take]; omega⟩) (fun i x acc' H' hx ⟨e, ea'⟩ => ?_) (fun acc' H4 ⟨e4, ea'⟩ l4 hn4 => ?_)
    · obtain ⟨r, pr, er, rfl, hpr⟩ := rooms_at ea3 hx
      refine nameYes ?_
      refine ⟨_, rfl, pr, _, _, _, rfl, rfl, SqT.of (e _ _ hpr), rfl, e, ?_⟩
      rw [ea', take_snoc er, List.map_append]
      rfl
    rw [hla, List.take_length] at ea'
    refine ⟨l4, (rmK ks).map (·.2), rfl, SqL.of (by rw [upd_same, ea', List.map_map]; rfl), fun z => hne (List.map_eq_nil_iff.mp z), fun M hM hle => ?_⟩
    obtain ⟨rM, hrM, eM⟩ := List.mem_map.mp hM
    rw [maxL_is (d := 1) hM (by rw [← eM]; exact (hb rM hrM).2.2.1) hle]
    have e5 : Same H3 (upd H4 l4 (.lst acc')) := e4.trans (same_new hn4 _)
    generalize upd H4 l4 (.lst acc') = H5 at e5
    clear hM hle eM hrM
    have e15 := e3.trans e5
    refine ⟨_, rfl, p, _, _, _, rfl, rfl, SqT.of (e15 _ _ hp), rfl, rfl, _, rfl, iteDT rfl ?_⟩
    have hls5 := e5 _ _ hls3
    have ea5 := ea3.same e5
    refine ⟨_, rfl, _, rfl, ls, rfl, ⟨_, SqL.of hls5⟩, ?_⟩
    refine comp_list (xs := acc) (fun i acc' H' => Same H5 H' ∧ acc' = ((rmK ks).take i).map fun r => V.int r.1) (by omega) ⟨Same.refl _, rfl⟩ (fun i acc' H' hi ⟨e, ea'⟩ => ⟨SqL.of (e _ _ hls5), by rw [ea', List.length_map, List.length_take]; omega⟩) (fun i x acc' H' hx ⟨e, ea'⟩ => ?_) (fun acc'' H6 ⟨e6, ea'⟩ l6 hn6 => ?_)
    · obtain ⟨r, pr, er, rfl, hpr⟩ := rooms_at ea5 hx
      refine nameYes ?_
      refine ⟨_, rfl, pr, _, _, _, rfl, rfl, SqT.of (e _ _ hpr), rfl, e, ?_⟩
      rw [ea', take_snoc er, List.map_append]
      rfl
    rw [hla, List.take_length] at ea'
    refine ⟨l6, (rmK ks).map (·.1), rfl, SqL.of (by rw [upd_same, ea', List.map_map]; rfl), fun z => hne (List.map_eq_nil_iff.mp z), fun M hM hle => ?_⟩
    obtain ⟨rM, hrM, eM⟩ := List.mem_map.mp hM
    rw [maxL_is (d := 0) hM (by rw [← eM]; exact (hb rM hrM).1) hle]
    have g0 : 0 ≤ maxL 0 ((rmK ks).map (·.1)) := maxL_d _
    have g1 : maxL 0 ((rmK ks).map (·.1)) ≤ 2 ^ 150 := maxL_le (by decide) fun z hz => by obtain ⟨r, hr', rfl⟩ := List.mem_map.mp hz; exact (hb r hr').2.1
    refine ⟨_, _, rfl, rfl, _, rfl, _, _, rfl, by omega, by omega, by omega, by omega, _, rfl, lists3 2 (by decide), fun p2 n2 => ?_⟩
    exact q p2 _ (((e15.trans e6).trans (same_new hn6 _)).trans (same_new n2 _)) upd_same
theorem rm_none : FnOk P w K mg base CX0 j f fd ["kind"] (spRM 0) := by
  have no : ∀ vs H Q E, ¬ spRM 0 vs H Q E := fun vs H Q E h => by
    obtain ⟨kd, v, _, _, _, _, hd, _⟩ := h
    have := kd.deep_pos
    omega
  exact ⟨fun vs H Q E h => absurd h (no vs H Q E), fun A outer s H args us vs Q E _ _ _ _ h => absurd h (no vs H Q E)⟩
theorem ok_bo (F : Fun K "_law_bounded" "_law_bounded" s_law_bounded f fd) (GKI : FnOk P w K mg base CX0 j fKI dKI ["deck", "deep"] (spKI 5)) (bKI : Binds K dKI ["deck", "deep"] []) (kKI : PySem.W.keepIn K (.ref fKI) = true) (mKI : mg "_law_kind" = some (.ref fKI))
    (GRM : FnOk P w K mg base CX0 j2 fRM dRM ["kind"] (spRM 5)) (bRM : Binds K dRM ["kind"] []) (kRM : PySem.W.keepIn K (.ref fRM) = true) (mRM : mg "_law_room" = some (.ref fRM))
    (GNX : FnOk P w K mg base CX0 1 fNX dNX ["deck"] spNX) (bNX : Binds K dNX ["deck"] []) (kNX : PySem.W.keepIn K (.ref fNX) = true) (mNX : mg "_law_next" = some (.ref fNX)) (h1 : j ≤ 19) (h2 : j2 ≤ 19) : FnOk P w K mg base CX0 20 f fd ["deck", "deep", "most"] spBO := by
  refine F.ok sc_law_bounded (fun vs H Q E h => ?_) (fun cdv A outer s H vs Q E hr h => ?_)
  · obtain ⟨p, d, m, rfl, _⟩ := h
    rfl
  obtain ⟨p, d, m, rfl, hp, hd1, hd5, hm8, q⟩ := h
  have h3 : 1 ≤ 19 := by decide
  refine ⟨_, (pss_cons (ps_set (i := 3) sc_law_bounded.nd rfl (Or.inl rfl) (pe_call GKI (hr.mono h1) rfl mKI kKI bKI .nil pass0 (pa_cons (pv 0) (pa_cons (pv 1) pa_nil))))
    (pss_cons (ps_if (pt_cmpR op_gt (pe_ix ix_tup (pe_call GRM (hr.mono h2) rfl mRM kRM bRM .nil pass0 (pa_cons (pv 3) pa_nil)) pe_int (fun _ _ => rfl)) (pv 2) (nomark _)) (pss_one (ps_ret (pe_tup (pa_cons pe_str (pa_cons (pe_op op_add pe_int (pe_op op_mod (pe_call GNX (hr.mono h3) rfl mNX kNX bNX .nil pass0 (pa_cons (pv 0) pa_nil)) pe_int)) (pa_cons pe_int pa_nil)))))) pss_nil)
    (pss_one (ps_ret (pv 3))))), ?_⟩
  refine ⟨_, rfl, _, rfl, p, d, rfl, hp, hd1, hd5, fun kd v H1 e1 hD hF hdp hP1 => ?_⟩
  refine ⟨_, rfl, kd, v, rfl, hD.same (hide_sub _ _), hF.ok, hF.full, by omega, by decide, fun x H2 e2 hx => ⟨x, _, _, _, rfl, rfl, SqT.of hx, rfl, _, rfl, _, _, rfl, rfl, _, rfl, ite2 (fun c => ?_) (fun c => ⟨_, rfl, ?_⟩)⟩⟩
  · refine ⟨_, rfl, p, rfl, hP1.same e2, fun r H3 r0 r1 e3 hP3 => ⟨_, _, rfl, rfl, (by show (0 : Int) < 8; decide), _, _, rfl, rfl, lists3 3 (by decide), fun t ht => ?_⟩⟩
    have a0 : (0 : Int) ≤ r % 8 := Int.emod_nonneg _ (by decide)
    have a1 : r % 8 < 8 := Int.emod_lt_of_pos _ (by decide)
    exact q (.num (1 + r % 8) 8) (.ref t) _ (((e1.trans (SameX.of e2)).trans e3).trans (SameX.of (same_new ht _))) (num_is (hP3.ne ht) upd_same) ⟨by omega, by omega, by omega⟩ (by show ((1 : Nat) : Int) ≤ d; omega) (by show 1 + r % 8 ≤ m; omega) (hP3.same (same_new ht _))
  · have hc : ¬ kd.rm.1 > m := fun z => c (decide_eq_true z)
    exact q kd v H2 (e1.trans (SameX.of e2)) (hD.same (SameX.of e2)) hF hdp (by omega) (hP1.same e2)
end

mutual
def Dt.Nb : Dt → Prop
  | .tup ds => nbD ds
  | .lst ds => nbD ds
  | .int _ => True
  | .str _ => True
  | .bl _ => False
def nbD : List Dt → Prop
  | [] => True
  | d :: r => d.Nb ∧ nbD r
end
def spAL (n : Nat) : Sp := fun vs H Q _ => ∃ (d : Dt) (v u : V), vs = [v, u] ∧ IsD H d v ∧ IsD H d u ∧ d.Sm ∧ d.Nb ∧ d.deep ≤ n ∧ ∀ H', Same H H' → Q (.bl true) H'
section
variable {P : Program} {w : World} {K : PySem.W.Frag} {mg : Str → Option Value} {base : Heap} {f fAL fLC : Addr} {fd dAL dLC : FuncData} {n j : Nat}
theorem al_none : FnOk P w K mg base CX0 j f fd ["found", "due"] (spAL 0) := by
  have no : ∀ vs H Q E, ¬ spAL 0 vs H Q E := fun vs H Q E h => by
    obtain ⟨d, v, u, _, _, _, _, _, hd, _⟩ := h
    have := Dt.deep_pos d
    omega
  exact ⟨fun vs H Q E h => absurd h (no vs H Q E), fun A outer s H args us vs Q E _ _ _ _ h => absurd h (no vs H Q E)⟩
theorem ok_lc (F : Fun K "_law_copy" "_law_copy" s_law_copy f fd) (GLC : FnOk P w K mg base CX0 j fLC dLC ["thing"] (spLC n)) (bLC : Binds K dLC ["thing"] []) (kLC : PySem.W.keepIn K (.ref fLC) = true) (mLC : mg "_law_copy" = some (.ref fLC))
    (m_isinstance : mg "isinstance" = none) (m_list : mg "list" = none) (m_tuple : mg "tuple" = none) : FnOk P w K mg base CX0 (j + 1) f fd ["thing"] (spLC (n + 1)) := by
  refine F.ok sc_law_copy (fun vs H Q E h => ?_) (fun cdv A outer s H vs Q E hr h => ?_)
  · obtain ⟨d, v, rfl, _⟩ := h
    rfl
  obtain ⟨d, v, rfl, hv, hs, hd, q⟩ := h
  cases d with
  | int i =>
    cases (show v = .int i from hv)
    refine ⟨_, (pss_cons (ps_if (pt_val (pe_callB call_isinst rfl m_isinstance bt_isinstance (pa_cons (pv 0) (pa_cons (pe_bltn (v := .ty "list") rfl m_list bt_list rfl) pa_nil)))) pss_never pss_nil) (pss_cons (ps_if (pt_val (pe_callB call_isinst rfl m_isinstance bt_isinstance (pa_cons (pv 0) (pa_cons (pe_bltn (v := .ty "tuple") rfl m_tuple bt_tuple rfl) pa_nil)))) pss_never pss_nil) (pss_one (ps_ret (pv 0))))), ?_⟩
    refine ⟨_, rfl, _, _, _, _, rfl, .int _, kit_int_list, _, rfl, iteF ?_⟩
    refine ⟨_, rfl, _, _, _, _, rfl, .int _, kit_int_tuple, _, rfl, iteF ?_⟩
    exact ⟨_, rfl, q _ _ (Same.refl _) rfl⟩
  | str x =>
    cases (show v = .str x from hv)
    refine ⟨_, (pss_cons (ps_if (pt_val (pe_callB call_isinst rfl m_isinstance bt_isinstance (pa_cons (pv 0) (pa_cons (pe_bltn (v := .ty "list") rfl m_list bt_list rfl) pa_nil)))) pss_never pss_nil) (pss_cons (ps_if (pt_val (pe_callB call_isinst rfl m_isinstance bt_isinstance (pa_cons (pv 0) (pa_cons (pe_bltn (v := .ty "tuple") rfl m_tuple bt_tuple rfl) pa_nil)))) pss_never pss_nil) (pss_one (ps_ret (pv 0))))), ?_⟩
    refine ⟨_, rfl, _, _, _, _, rfl, .str _, kit_str_list, _, rfl, iteF ?_⟩
    refine ⟨_, rfl, _, _, _, _, rfl, .str _, kit_str_tuple, _, rfl, iteF ?_⟩
    exact ⟨_, rfl, q _ _ (Same.refl _) rfl⟩
  | bl b =>
    cases (show v = .bl b from hv)
    refine ⟨_, (pss_cons (ps_if (pt_val (pe_callB call_isinst rfl m_isinstance bt_isinstance (pa_cons (pv 0) (pa_cons (pe_bltn (v := .ty "list") rfl m_list bt_list rfl) pa_nil)))) pss_never pss_nil) (pss_cons (ps_if (pt_val (pe_callB call_isinst rfl m_isinstance bt_isinstance (pa_cons (pv 0) (pa_cons (pe_bltn (v := .ty "tuple") rfl m_tuple bt_tuple rfl) pa_nil)))) pss_never pss_nil) (pss_one (ps_ret (pv 0))))), ?_⟩
    refine ⟨_, rfl, _, _, _, _, rfl, .bl _, kit_bool_list, _, rfl, iteF ?_⟩
    refine ⟨_, rfl, _, _, _, _, rfl, .bl _, kit_bool_tuple, _, rfl, iteF ?_⟩
    exact ⟨_, rfl, q _ _ (Same.refl _) rfl⟩
  | lst ds =>
    obtain ⟨a, ws, rfl, ha, hw⟩ := hv
    have hlw := hw.len
    have hl := hs.1
    have hd' : deepD ds + 1 ≤ n + 1 := hd
    refine ⟨_, (pss_cons (ps_if (pt_val (pe_callB call_isinst rfl m_isinstance bt_isinstance (pa_cons (pv 0) (pa_cons (pe_bltn (v := .ty "list") rfl m_list bt_list rfl) pa_nil)))) (pss_one (ps_ret (pe_comp (dsc := defScope s_law_copy) (N := ["thing"]) (tgs := ["one"]) (outs := []) (N' := ["one"]) ⟨rfl, by decide +kernel, by decide +kernel, by decide +kernel, rfl, by decide +kernel, by decide +kernel, by decide +kernel⟩ (pi_list (pv 0)) (fun _ _ _ _ _ => (pg_name (i := 0) (show (["one"] : List Str).Nodup by decide +kernel) rfl (Or.inl rfl) (.inr rfl))) (tgt_name (by decide)) (fun _ _ _ _ _ => pcs_nil) (fun _ _ _ _ _ => (pe_call GLC hr rfl mLC kLC bLC .nil pass0 (pa_cons (pv 0) pa_nil)))))) pss_nil) pss_never), ?_⟩
    refine ⟨_, rfl, _, _, _, _, rfl, .lst ha, kit_self _, _, rfl, iteT ?_⟩
    refine ⟨_, rfl, a, rfl, ⟨_, SqL.of ha⟩, ?_⟩
    refine comp_list (xs := ws) (fun i acc H' => Same H H' ∧ IsDs H' (ds.take i) acc) (by omega) ⟨Same.refl _, rfl⟩ (fun i acc H' hi ⟨e, ea⟩ => ⟨SqL.of (e _ _ ha), by rw [ea.len, List.length_take]; omega⟩) (fun i x acc H' hx ⟨e, ea⟩ => ?_) (fun acc H' ⟨e, ea⟩ l hn => ?_)
    · obtain ⟨d, ed, hdx⟩ := hw.get hx
      have := deepD_at ed
      refine nameYes ?_
      refine ⟨_, rfl, d, x, rfl, hdx.same e, smD_at hs.2 ed, by omega, fun v' H2 e2 hv' => ⟨e.trans e2, ?_⟩⟩
      rw [take_snoc ed]
      exact (ea.same e2).snoc hv'
    · rw [hlw, List.take_length] at ea
      exact q _ _ (e.trans (same_new hn _)) ⟨l, acc, rfl, upd_same, ea.same (same_new hn _)⟩
  | tup ds =>
    obtain ⟨a, ws, rfl, ha, hw⟩ := hv
    have hlw := hw.len
    have hl := hs.1
    have hd' : deepD ds + 1 ≤ n + 1 := hd
    refine ⟨_, (pss_cons (ps_if (pt_val (pe_callB call_isinst rfl m_isinstance bt_isinstance (pa_cons (pv 0) (pa_cons (pe_bltn (v := .ty "list") rfl m_list bt_list rfl) pa_nil)))) pss_never pss_nil) (pss_cons (ps_if (pt_val (pe_callB call_isinst rfl m_isinstance bt_isinstance (pa_cons (pv 0) (pa_cons (pe_bltn (v := .ty "tuple") rfl m_tuple bt_tuple rfl) pa_nil)))) (pss_one (ps_ret (pe_callTy call_tuple_of rfl m_tuple bt_tuple (pa_cons (pe_comp (dsc := defScope s_law_copy) (N := ["thing"]) (tgs := ["one"]) (outs := []) (N' := ["one"]) ⟨rfl, by decide +kernel, by decide +kernel, by decide +kernel, rfl, by decide +kernel, by decide +kernel, by decide +kernel⟩ (pi_tup (pv 0)) (fun _ _ _ _ _ => (pg_name (i := 0) (show (["one"] : List Str).Nodup by decide +kernel) rfl (Or.inl rfl) (.inr rfl))) (tgt_name (by decide)) (fun _ _ _ _ _ => pcs_nil) (fun _ _ _ _ _ => (pe_call GLC hr rfl mLC kLC bLC .nil pass0 (pa_cons (pv 0) pa_nil)))) pa_nil)))) pss_nil) pss_never)), ?_⟩
    refine ⟨_, rfl, _, _, _, _, rfl, .tup ha, kit_tuple_list, _, rfl, iteF ?_⟩
    refine ⟨_, rfl, _, _, _, _, rfl, .tup ha, kit_self _, _, rfl, iteT ?_⟩
    refine ⟨_, rfl, a, rfl, ⟨_, SqT.of ha⟩, ?_⟩
    refine comp_tup (xs := ws) (fun i acc H' => Same H H' ∧ IsDs H' (ds.take i) acc) (by omega) ⟨Same.refl _, rfl⟩ (fun i acc H' hi ⟨e, ea⟩ => ⟨SqT.of (e _ _ ha), by rw [ea.len, List.length_take]; omega⟩) (fun i x acc H' hx ⟨e, ea⟩ => ?_) (fun acc H' ⟨e, ea⟩ l hn => ?_)
    · obtain ⟨d, ed, hdx⟩ := hw.get hx
      have := deepD_at ed
      refine nameYes ?_
      refine ⟨_, rfl, d, x, rfl, hdx.same e, smD_at hs.2 ed, by omega, fun v' H2 e2 hv' => ⟨e.trans e2, ?_⟩⟩
      rw [take_snoc ed]
      exact (ea.same e2).snoc hv'
    · rw [hlw, List.take_length] at ea
      refine ⟨l, acc, rfl, .inl ⟨SqL.of upd_same, fun l2 hn2 => ?_⟩⟩
      exact q _ _ ((e.trans (same_new hn _)).trans (same_new hn2 _)) ⟨l2, acc, rfl, upd_same, (ea.same (same_new hn _)).same (same_new hn2 _)⟩
theorem lc_none : FnOk P w K mg base CX0 j f fd ["thing"] (spLC 0) := by
  have no : ∀ vs H Q E, ¬ spLC 0 vs H Q E := fun vs H Q E h => by
    obtain ⟨d, v, _, _, _, hd, _⟩ := h
    have := Dt.deep_pos d
    omega
  exact ⟨fun vs H Q E h => absurd h (no vs H Q E), fun A outer s H args us vs Q E _ _ _ _ h => absurd h (no vs H Q E)⟩
end

section
variable {P : Program} {w : World} {K : PySem.W.Frag} {mg : Str → Option Value} {base : Heap} {fNX fNA fKI fRM fUP fAL fCP : Addr} {dNX dNA dKI dRM dUP dAL dCP : FuncData}
theorem ki_all (xKI : Fx K mg "_law_kind" s_law_kind ["deck", "deep"] fKI dKI) (xNX : Fx K mg "_law_next" s_law_next ["deck"] fNX dNX) (xNA : Fx K mg "_law_names" s_law_names ["deck", "many"] fNA dNA) (m_range : mg "range" = none) (m_list : mg "list" = none) (m_zip : mg "zip" = none) (m_len : mg "len" = none) :
    ∀ n, FnOk P w K mg base CX0 (2 + n) fKI dKI ["deck", "deep"] (spKI n)
  | 0 => ki_none
  | n + 1 => (ok_ki xKI.F (ok_nx xNX.F) xNX.b xNX.k xNX.m (ok_na xNA.F (ok_nx xNX.F) xNX.b xNX.k xNX.m m_range) xNA.b xNA.k xNA.m (ki_all xKI xNX xNA m_range m_list m_zip m_len n) xKI.b xKI.k xKI.m m_range m_list m_zip m_len (by omega)).mono (by omega)
theorem rm_all (xRM : Fx K mg "_law_room" s_law_room ["kind"] fRM dRM) (xUP : Fx K mg "_law_up" s_law_up ["number", "m"] fUP dUP) (m_max : mg "max" = none) : ∀ n, FnOk P w K mg base CX0 (1 + n) fRM dRM ["kind"] (spRM n)
  | 0 => rm_none
  | n + 1 => (ok_rm xRM.F (rm_all xRM xUP m_max n) xRM.b xRM.k xRM.m (ok_up xUP.F) xUP.b xUP.k xUP.m m_max (by omega)).mono (by omega)
theorem cp_all (xCP : Fx K mg "_law_copy" s_law_copy ["thing"] fCP dCP) (m_isinstance : mg "isinstance" = none) (m_list : mg "list" = none) (m_tuple : mg "tuple" = none) : ∀ n, FnOk P w K mg base CX0 (1 + n) fCP dCP ["thing"] (spLC n)
  | 0 => lc_none
  | n + 1 => (ok_lc xCP.F (cp_all xCP m_isinstance m_list m_tuple n) xCP.b xCP.k xCP.m m_isinstance m_list m_tuple).mono (by omega)
end

def hid2 (L B : Addr) (H : Hp) : Hp := hide L (hide B H)
theorem hid2_of {L B b : Addr} {H : Hp} {o : HO} (h1 : b ≠ L) (h2 : b ≠ B) (h : H b = some o) : hid2 L B H b = some o := by
  unfold hid2
  rw [hide_ne h1, hide_ne h2]
  exact h
theorem hid2_some {L B b : Addr} {H : Hp} {o : HO} (h : hid2 L B H b = some o) : b ≠ L ∧ b ≠ B ∧ H b = some o := by
  obtain ⟨a, h⟩ := hide_some h
  obtain ⟨c, h⟩ := hide_some h
  exact ⟨a, c, h⟩
abbrev SameY (L B : Addr) (H H' : Hp) : Prop := Same (hid2 L B H) (hid2 L B H')
theorem SameY.of {L B : Addr} {H H' : Hp} (e : Same H H') : SameY L B H H' := hide_same (hide_same e)
theorem SameY.updL (L B : Addr) (H : Hp) (o : HO) : SameY L B H (upd H L o) := fun b u h => by
  obtain ⟨a, c, h⟩ := hid2_some h
  exact hid2_of a c (by rw [upd_ne a]; exact h)
theorem IsDs.app {H : Hp} {es : List Dt} {us : List V} (h : IsDs H es us) : ∀ {ds : List Dt} {vs : List V}, IsDs H ds vs → IsDs H (ds ++ es) (vs ++ us)
  | [], _, hs => by cases (show _ = [] from hs); exact h
  | e :: r, _, ⟨u, vr, h1, h2, h3⟩ => by subst h1; exact ⟨u, vr ++ us, rfl, h2, IsDs.app h h3⟩
theorem size5 {n : Nat} (h : n ≤ 100000) : n ≤ sizeLine := by rw [sizeLine_eq]; omega
def wdt (w : Way) : Dt := .tup [.int w.1, .int (w.2.1 : Int), .int w.2.2]
def wL (w : Way) : List Int := [w.1, (w.2.1 : Int), w.2.2]
def stOf (x : (Int × Int) × Int) : Int × Int := (x.2, x.2 + x.1.1)
def LyOk (ly : List (Int × Int)) : Prop := Rising ly ∧ ly.length ≤ 20 ∧ ∀ s ∈ ly, s.2 ≤ 100000
theorem LyOk.nn {ly : List (Int × Int)} (h : LyOk ly) {s : Int × Int} (hs : s ∈ ly) : 0 ≤ s.1 ∧ 0 ≤ s.2 ∧ s.2 ≤ 100000 := by
  have a := h.1.1 s hs
  have b := h.2.2 s hs
  omega
def Rs2 (rs : List (Int × Int)) : Prop := Good rs ∧ ∀ k, k < rs.length → (rk rs k).1 ≤ 2000
theorem rk_at {rs : List (Int × Int)} {i : Nat} {r : Int × Int} (h : rs[i]? = some r) : rk rs i = r := by
  unfold rk
  rw [List.getD_eq_getElem?_getD, h]
  rfl
def spFP : Sp := fun vs H Q _ => ∃ (b : Int) (p a : Addr) (r : Int × Int) (ly : List (Int × Int)) (lv : List V), vs = [.int b, .ref p, .ref a] ∧ H p = some (.tup [.int r.1, .int r.2]) ∧ H a = some (.lst lv) ∧ IsDs H (ly.map rdt) lv ∧ 0 ≤ b ∧ b ≤ 1000000 ∧ 1 ≤ r.2 ∧ r.2 ≤ 8 ∧ (∀ s ∈ ly, 0 ≤ s.2 ∧ s.2 ≤ 100000) ∧ Q (.int (fr ly b r)) H
def spSA : Sp := fun vs H Q _ => ∃ (a b : Addr) (ws : List V) (rs : List (Int × Int)) (ps : List Int), vs = [.ref a, .ref b] ∧ H a = some (.lst ws) ∧ IsDs H (rs.map rdt) ws ∧ H b = some (.lst (ps.map V.int)) ∧ ps.length = rs.length ∧ rs.length ≤ 10 ∧
  ∀ l zs H', Same H H' → H' l = some (.lst zs) → IsDs H' (((rs.zip ps).map stOf).map rdt) zs → Q (.ref l) H'
def spGE : Sp := fun vs H Q _ => ∃ (a : Addr) (ws : List V) (sts : List (Int × Int)), vs = [.ref a] ∧ H a = some (.lst ws) ∧ IsDs H (sts.map rdt) ws ∧ sts.length ≤ 1000 ∧ (∀ s ∈ sts, 0 ≤ s.2) ∧ ∀ H', Same H H' → Q (.int (maxL 0 (sts.map (·.2)))) H'
def spCW : Sp := fun vs H Q _ => ∃ (g : Nat) (W c a : Addr) (wv cv lv : List V) (rs ly : List (Int × Int)), vs = [.int (g : Int), .ref W, .ref c, .ref a] ∧ H W = some (.lst wv) ∧ IsDs H ((wy rs ly (g - 1)).map wdt) wv ∧ H c = some (.lst cv) ∧ IsDs H (rs.map rdt) cv ∧ H a = some (.lst lv) ∧ IsDs H (ly.map rdt) lv ∧ Rs2 rs ∧ LyOk ly ∧ 0 < g ∧ g < 2 ^ rs.length ∧
  ∀ t H', Same H H' → H' t = some (.tup ((wL (way rs ly g)).map V.int)) → Q (.ref t) H'
def spBF : Sp := fun vs H Q _ => ∃ (W : Addr) (wv : List V) (rs ly : List (Int × Int)), vs = [.ref W, .int (rs.length : Int)] ∧ H W = some (.lst wv) ∧ IsDs H ((wy rs ly (full rs)).map wdt) wv ∧ Rs2 rs ∧ LyOk ly ∧
  ∀ l H', Same H H' → H l = none → H' l = some (.lst ((dpP rs ly).map V.int)) → Q (.ref l) H'
def spCC : Sp := fun vs H Q _ => ∃ (c a : Addr) (cv lv : List V) (rs ly : List (Int × Int)), vs = [.ref c, .ref a] ∧ H c = some (.lst cv) ∧ IsDs H (rs.map rdt) cv ∧ H a = some (.lst lv) ∧ IsDs H (ly.map rdt) lv ∧ Rs2 rs ∧ LyOk ly ∧
  ∀ l H', Same H H' → H l = none → H' l = some (.lst ((dpP rs ly).map V.int)) → Q (.ref l) H'
def spPC (n : Nat) : Sp := fun vs H Q _ => ∃ (c a : Addr) (cv lv : List V) (ks : List Kd) (ly : List (Int × Int)), vs = [.ref c, .ref a] ∧ H c = some (.lst cv) ∧ IsDs H (dtK ks) cv ∧ okK ks ∧ deepK ks ≤ n ∧ n ≤ 12 ∧ H a = some (.lst lv) ∧ IsDs H (ly.map rdt) lv ∧ Rs2 (rmK ks) ∧ LyOk ly ∧
  ∀ t l H', Same H H' → H l = none → H' t = some (.tup [.ref l, .int (dueE (rmK ks) ly)]) → H' l = some (.lst ((dpP (rmK ks) ly).map V.int)) → Q (.ref t) H'
section
variable {P : Program} {w : World} {K : PySem.W.Frag} {mg : Str → Option Value} {base : Heap} {f fRU fFP fCW fBF fRS fCC fSA fGE : Addr} {fd dRU dFP dCW dBF dRS dCC dSA dGE : FuncData} {n j : Nat}
theorem ok_sa (F : Fun K "stretches_at" "stretches_at" s_stretches_at f fd) (m_zip : mg "zip" = none) : FnOk P w K mg base CX0 1 f fd ["rooms", "places"] spSA := by
  refine F.ok sc_stretches_at (fun vs H Q E h => ?_) (fun cdv A outer s H vs Q E hr h => ?_)
  · obtain ⟨a, b, ws, rs, ps, rfl, _⟩ := h
    rfl
  obtain ⟨a, b, ws, rs, ps, rfl, ha, hws, hb, hlp, hl, q⟩ := h
  have hlw : ws.length = rs.length := by rw [hws.len, List.length_map]
  have hlm : (ps.map V.int).length = rs.length := by rw [List.length_map, hlp]
  refine ⟨_, (pss_one (ps_ret (pe_comp (dsc := defScope s_stretches_at) (N := ["rooms", "places"]) (tgs := ["room", "place"]) (outs := []) (N' := ["room", "place"]) ⟨rfl, by decide +kernel, by decide +kernel, by decide +kernel, rfl, by decide +kernel, by decide +kernel, by decide +kernel⟩ (pi_zip (t1 := false) (t2 := false) rfl m_zip (pa_cons (pv 0) (pa_cons (pv 1) pa_nil))) (fun _ _ _ _ _ => (pg_tupK K (n := 2) rfl rfl (pgs_cons (pg_name (i := 0) (show (["room", "place"] : List Str).Nodup by decide +kernel) rfl (Or.inl rfl) (.inr rfl)) (pgs_cons (pg_name (i := 1) (show (["room", "place"] : List Str).Nodup by decide +kernel) rfl (Or.inl rfl) (.inr rfl)) pgs_nil)))) (tgt_tup (tgts_name (by decide) (tgts_name (by decide) tgts_nil tmono_nil) (tmono_name tmono_nil))) (fun _ _ _ _ _ => pcs_nil) (fun _ _ _ _ _ => (pe_tup (pa_cons (pv 1) (pa_cons (pe_op op_add (pv 1) (pe_ix (ix_tupK K) (pv 0) pe_int (fun _ _ => rfl))) pa_nil))))))), ?_⟩
  refine ⟨_, rfl, _, rfl, a, b, rfl, ⟨_, SqL.of ha⟩, ⟨_, SqL.of hb⟩, ?_⟩
  refine comp_zip (t1 := false) (t2 := false) (xs := ws) (ys := ps.map V.int) (fun i acc H' => Same H H' ∧ IsDs H' ((((rs.zip ps).take i).map stOf).map rdt) acc) (by omega) (by omega) ⟨Same.refl _, rfl⟩
    (fun i acc H' hi ⟨e, ea⟩ => ⟨SqL.of (e _ _ ha), SqL.of (e _ _ hb), by rw [ea.len, List.length_map, List.length_map, List.length_take]; omega⟩) (fun i x y p acc H' hx hy ⟨e, ea⟩ hpn => ?_) (fun acc H' ⟨e, ea⟩ l hn => ?_)
  · obtain ⟨r, pr, er, rfl, hpr⟩ := rooms_at hws hx
    rw [List.getElem?_map] at hy
    cases ep : ps[i]? with
    | none => rw [ep] at hy; cases hy
    | some pl =>
      rw [ep] at hy
      cases hy
      have en : Same H (upd H' p (.tup [.ref pr, .int pl])) := e.trans (same_new hpn _)
      refine ⟨p, _, rfl, SqT.of upd_same, rfl, _, _, rfl, _, _, rfl, rfl, ?_⟩
      refine yesT ?_
      refine ⟨_, rfl, _, rfl, _, rfl, pr, _, _, _, rfl, rfl, SqT.of (en _ _ hpr), rfl, _, _, rfl, rfl, lists3 2 (by decide), fun t ht => ?_⟩
      have e2 := same_new ht (.tup [.int pl, .int (pl + r.1)])
      refine ⟨en.trans e2, ?_⟩
      have ez : (rs.zip ps)[i]? = some (r, pl) := (List.getElem?_zip_eq_some (z := (r, pl))).mpr ⟨er, ep⟩
      rw [take_snoc ez, List.map_append, List.map_append]
      exact IsDs.snoc (d := rdt (stOf (r, pl))) ⟨t, _, rfl, upd_same, _, _, rfl, rfl, _, _, rfl, rfl, rfl⟩ ((ea.same (same_new hpn _)).same e2)
  · have hz : (rs.zip ps).length = rs.length := by rw [List.length_zip]; omega
    rw [hlw, ← hz, List.take_length] at ea
    exact q l _ _ (e.trans (same_new hn _)) upd_same (ea.same (same_new hn _))
theorem ixN_nat {n k : Nat} (h : k < n) : ixN n (k : Int) = some k := by
  unfold ixN
  rw [if_pos (by omega), if_pos (by omega), Int.toNat_natCast]
theorem map_set_int (ps : List Int) (k : Nat) (v : Int) : (ps.map V.int).set k (.int v) = (ps.set k v).map V.int := by rw [List.map_set]
theorem rep_zero (n : Nat) : (List.replicate n [V.int 0]).flatten = (List.replicate n (0 : Int)).map V.int := by
  induction n with
  | zero => rfl
  | succ n ih => rw [List.replicate_succ, List.flatten_cons, ih, List.replicate_succ]; rfl
end

theorem Rising.snoc {ly : List (Int × Int)} {e a b : Int} (h : Rising ly) (he : ∀ s ∈ ly, s.2 ≤ e) (h1 : 0 ≤ a) (h2 : e ≤ a) (h3 : a < b) : Rising (ly ++ [(a, b)]) := by
  refine ⟨fun s hs => ?_, List.pairwise_append.mpr ⟨h.2, List.pairwise_singleton _ _, fun s hs t ht => ?_⟩⟩
  · rcases List.mem_append.mp hs with hs | hs
    · exact h.1 s hs
    · rw [List.mem_singleton.mp hs]
      exact ⟨h1, h3⟩
  · rw [List.mem_singleton.mp ht]
    have := he s hs
    show s.2 ≤ a
    omega
def spLY : Sp := fun vs H Q _ => ∃ (p : Addr) (m f : Int), vs = [.ref p, .int m, .int f] ∧ DeckAt p H ∧ 0 ≤ m ∧ m ≤ 20 ∧ 1 ≤ f ∧ f ≤ 20 ∧
  ∀ (ly : List (Int × Int)) (l : Addr) (lv : List V) (H' : Hp), SameX p H H' → H l = none → l ≠ p → H' l = some (.lst lv) → IsDs (hide p H') (ly.map rdt) lv → LyOk ly → (∀ s ∈ ly, s.2 ≤ 1000) → (ly.length : Int) ≤ m → DeckAt p H' → Q (.ref l) H'
def spSK : Sp := fun vs H Q _ => ∃ (p : Addr) (m : Int), vs = [.ref p, .int m] ∧ DeckAt p H ∧ 0 ≤ m ∧ m ≤ 6 ∧
  ∀ (ks : List Kd) (v : V) (H' : Hp), SameX p H H' → IsD (hide p H') (.lst (dtK ks)) v → fitK ks → deepK ks ≤ 4 → (ks.length : Int) ≤ m → (∀ r ∈ rmK ks, r.1 ≤ 2000) → DeckAt p H' → Q v H'
theorem rmK_snoc : ∀ (ks : List Kd) (k : Kd), rmK (ks ++ [k]) = rmK ks ++ [k.rm]
  | [], _ => rfl
  | a :: r, k => by show a.rm :: rmK (r ++ [k]) = a.rm :: (rmK r ++ [k.rm]); rw [rmK_snoc r k]
theorem four_room {v : V} (h : v ∈ [V.int 12, V.int 40, V.int 40, V.int 2000]) : ∃ z, v = .int z ∧ 12 ≤ z ∧ z ≤ 2000 := by
  simp only [List.mem_cons, List.not_mem_nil, or_false] at h
  rcases h with rfl | rfl | rfl | rfl
  · exact ⟨_, rfl, by decide, by decide⟩
  · exact ⟨_, rfl, by decide, by decide⟩
  · exact ⟨_, rfl, by decide, by decide⟩
  · exact ⟨_, rfl, by decide, by decide⟩
section
variable {P : Program} {w : World} {K : PySem.W.Frag} {mg : Str → Option Value} {base : Heap} {f fNX fBO fUP fIP : Addr} {fd dNX dBO dUP dIP : FuncData} {n j : Nat}
set_option maxHeartbeats 8000000 in
theorem ok_ly (F : Fun K "_law_lying" "_law_lying" s_law_lying f fd) (xNX : Fx K mg "_law_next" s_law_next ["deck"] fNX dNX) (GNX : FnOk P w K mg base CX0 1 fNX dNX ["deck"] spNX) (m_range : mg "range" = none) : FnOk P w K mg base CX0 2 f fd ["deck", "most", "far"] spLY := by
  refine F.ok sc_law_lying (fun vs H Q E h => ?_) (fun cdv A outer s H vs Q E hr h => ?_)
  · obtain ⟨p, m, fa, rfl, _⟩ := h
    rfl
  obtain ⟨p, m, fa, rfl, hP, hm0, hm1, hf0, hf1, q⟩ := h
  have bNX := xNX.b
  have kNX := xNX.k
  have mNX := xNX.m
  refine ⟨_, (pss_cons (ps_set (i := 3) sc_law_lying.nd rfl (Or.inl rfl) (pe_lst pa_nil))
    (pss_cons (ps_set (i := 4) sc_law_lying.nd rfl (Or.inl rfl) pe_int)
    (pss_cons (ps_for PassesOwn.never rfl (pi_range1 rfl m_range (pa_cons (pe_op op_mod (pe_call GNX hr rfl mNX kNX bNX .nil pass0 (pa_cons (pv 0) pa_nil)) (pe_op op_add (pv 1) pe_int)) pa_nil)) (pg_name (i := 5) sc_law_lying.nd rfl (Or.inl rfl)) (pss_cons (ps_set (i := 6) sc_law_lying.nd rfl (Or.inl rfl) (pe_op op_add (pv 4) (pe_op op_mod (pe_call GNX hr rfl mNX kNX bNX .nil pass0 (pa_cons (pv 0) pa_nil)) (pv 2))))
    (pss_cons (ps_set (i := 4) sc_law_lying.nd rfl (Or.inl rfl) (pe_op op_add (pe_op op_add (pv 6) pe_int) (pe_op op_mod (pe_call GNX hr rfl mNX kNX bNX .nil pass0 (pa_cons (pv 0) pa_nil)) (pv 2))))
    (pss_one (ps_expr (pe_bm PySem.F.plainAttrs_list PySem.F.slot_list_append PySem.F.type_list_append mt_append (pv 3) (pa_cons (pe_tup (pa_cons (pv 6) (pa_cons (pv 4) pa_nil))) pa_nil)))))))
    (pss_one (ps_ret (pv 3)))))), ?_⟩
  refine ⟨lists3 0 (by decide), fun l hl => ?_⟩
  have s0 := same_new hl (.lst [])
  have hlp : l ≠ p := hP.ne hl
  refine ⟨_, rfl, p, rfl, hP.same s0, fun r H1 r0 r1 e1 hP1 => ⟨_, rfl, _, _, rfl, rfl, _, _, rfl, rfl, (by show 0 < m + 1; omega), ?_⟩⟩
  have g0 : (0 : Int) ≤ r % (m + 1) := Int.emod_nonneg _ (by omega)
  have g1 : r % (m + 1) < m + 1 := Int.emod_lt_of_pos _ (by omega)
  refine ⟨_, rfl, by omega, by omega, ?_⟩
  refine for_range (fun i σ H' => ∃ (ly : List (Int × Int)) (lv : List V) (e : Int) (x5 x6 : Option V), σ = [some (.ref p), some (.int m), some (.int fa), some (.ref l), some (.int e), x5, x6] ∧ SameX p H H' ∧ H' l = some (.lst lv) ∧ IsDs (hid2 l p H') (ly.map rdt) lv ∧ DeckAt p H' ∧ Rising ly ∧ ly.length = i ∧ (∀ s ∈ ly, s.2 ≤ e) ∧ 0 ≤ e ∧ e ≤ (i : Int) * 41)
    ⟨[], [], 0, _, _, rfl, (SameX.of s0).trans e1, e1.get hlp upd_same, rfl, hP1, ⟨fun s hs => (nomatch hs), List.Pairwise.nil⟩, rfl, fun s hs => (nomatch hs), Int.le_refl _, by simp⟩ (fun i σ H' hi ⟨ly, lv, e, x5, x6, es, eS, hL, hD, hP', hRi, hlen, hle, he0, he1⟩ => ?_) (fun σ H' ⟨ly, lv, e, x5, x6, es, eS, hL, hD, hP', hRi, hlen, hle, he0, he1⟩ => ?_)
  · subst es
    refine ⟨_, rfl, _, rfl, p, rfl, hP', fun a1 H2 a10 a11 e2 hP2 => ⟨_, rfl, _, _, rfl, rfl, (by show 0 < fa; omega), _, _, rfl, rfl, ?_⟩⟩
    refine ⟨_, rfl, _, _, rfl, rfl, _, rfl, p, rfl, hP2, fun a2 H3 a20 a21 e3 hP3 => ⟨_, rfl, _, _, rfl, rfl, (by show 0 < fa; omega), _, _, rfl, rfl, ?_⟩⟩
    have b0 : (0 : Int) ≤ a1 % fa := Int.emod_nonneg _ (by omega)
    have b1 : a1 % fa < fa := Int.emod_lt_of_pos _ (by omega)
    have c0 : (0 : Int) ≤ a2 % fa := Int.emod_nonneg _ (by omega)
    have c1 : a2 % fa < fa := Int.emod_lt_of_pos _ (by omega)
    have hL3 := e3.get hlp (e2.get hlp hL)
    refine ⟨_, rfl, .inl ⟨rfl, _, SqL.of hL3⟩, _, rfl, _, rfl, lists3 2 (by decide), fun t ht => ?_⟩
    have s4 := same_new ht (.tup [.int (e + a1 % fa), .int (e + a1 % fa + 1 + a2 % fa)])
    have tl : t ≠ l := fun z => by rw [z, hL3] at ht; cases ht
    have tp : t ≠ p := hP3.ne ht
    have hlv : lv.length = i := by rw [hD.len, List.length_map, hlen]
    have hi20 : (i : Int) ≤ 20 := by omega
    refine ⟨l, _, _, rfl, rfl, s4 _ _ hL3, small1000 (by omega), ?_⟩
    have hDD : SameY l p H' (upd (upd H3 t (.tup [.int (e + a1 % fa), .int (e + a1 % fa + 1 + a2 % fa)])) l (.lst (lv ++ [.ref t]))) := by
      intro b o hb
      obtain ⟨n1, n2, hb⟩ := hid2_some hb
      exact hid2_of n1 n2 (by rw [upd_ne n1]; exact s4 _ _ (e3.get n2 (e2.get n2 hb)))
    refine ⟨ly ++ [(e + a1 % fa, e + a1 % fa + 1 + a2 % fa)], lv ++ [.ref t], _, _, _, rfl, ?_, upd_same, ?_, ?_, hRi.snoc hle (by omega) (by omega) (by omega), by rw [List.length_append, hlen]; rfl, fun s hs => ?_, by omega, ?_⟩
    · intro b o hb
      obtain ⟨n2, hb⟩ := hide_some hb
      have n1 : b ≠ l := ne_of_none hb hl
      rw [hide_ne n2, upd_ne n1]
      exact s4 _ _ (e3.get n2 (e2.get n2 (eS.get n2 hb)))
    · rw [List.map_append]
      exact IsDs.snoc (d := rdt (e + a1 % fa, e + a1 % fa + 1 + a2 % fa)) ⟨t, _, rfl, hid2_of tl tp (by rw [upd_ne tl]; exact upd_same), _, _, rfl, rfl, _, _, rfl, rfl, rfl⟩ (hD.same hDD)
    · obtain ⟨ns, q1, q2⟩ := hP3.same s4
      exact ⟨ns, by rw [upd_ne (fun z => hlp z.symm)]; exact q1, q2⟩
    · rcases List.mem_append.mp hs with hs | hs
      · have := hle s hs
        omega
      · rw [List.mem_singleton.mp hs]
        exact Int.le_refl _
    · have : ((i + 1 : Nat) : Int) * 41 = (i : Int) * 41 + 41 := by omega
      omega
  · subst es
    refine ⟨_, rfl, q ly l lv H' eS hl hlp hL (hD.same (hide_sub _ _)) ⟨hRi, by omega, fun s hs => ?_⟩ (fun s hs => ?_) (by omega) hP'⟩
    · have := hle s hs
      have : (((r % (m + 1)).toNat : Nat) : Int) * 41 ≤ 20 * 41 := Int.mul_le_mul_of_nonneg_right (by omega) (by decide)
      omega
    · have := hle s hs
      have : (((r % (m + 1)).toNat : Nat) : Int) * 41 ≤ 20 * 41 := Int.mul_le_mul_of_nonneg_right (by omega) (by decide)
      omega
set_option maxHeartbeats 8000000 in
theorem ok_sk (F : Fun K "_law_some_kinds" "_law_some_kinds" s_law_some_kinds f fd) (xNX : Fx K mg "_law_next" s_law_next ["deck"] fNX dNX) (xBO : Fx K mg "_law_bounded" s_law_bounded ["deck", "deep", "most"] fBO dBO) (GNX : FnOk P w K mg base CX0 1 fNX dNX ["deck"] spNX) (GBO : FnOk P w K mg base CX0 20 fBO dBO ["deck", "deep", "most"] spBO) (m_range : mg "range" = none) : FnOk P w K mg base CX0 21 f fd ["deck", "most"] spSK := by
  refine F.ok sc_law_some_kinds (fun vs H Q E h => ?_) (fun cdv A outer s H vs Q E hr h => ?_)
  · obtain ⟨p, m, rfl, _⟩ := h
    rfl
  obtain ⟨p, m, rfl, hP, hm0, hm1, q⟩ := h
  have bNX := xNX.b
  have kNX := xNX.k
  have mNX := xNX.m
  have bBO := xBO.b
  have kBO := xBO.k
  have mBO := xBO.m
  have h1 : 1 ≤ 20 := by decide
  refine ⟨_, (pss_cons (ps_set (i := 2) sc_law_some_kinds.nd rfl (Or.inr rfl) (pe_ix ix_list (pe_lst (pa_cons pe_int (pa_cons pe_int (pa_cons pe_int (pa_cons pe_int pa_nil))))) (pe_op op_fdivB (pe_op op_mod (pe_call GNX (hr.mono h1) rfl mNX kNX bNX .nil pass0 (pa_cons (pv 0) pa_nil)) pe_int) pe_int) (fun _ _ => rfl)))
    (pss_cons (ps_mid (ps_if (PW.pt (pw_and (pt_cmpR op_eq (pv 2) pe_int (nomark _)) (pw_and1 (pt_cmpR op_eq (pe_op op_mod (pe_call GNX (hr.mono h1) rfl mNX kNX bNX .nil pass0 (pa_cons (pv 0) pa_nil)) pe_int) pe_int (nomark _))))) (pss_one (ps_set (i := 2) sc_law_some_kinds.nd rfl (Or.inr rfl) pe_int)) pss_nil))
    (pss_one (ps_ret (pe_comp (dsc := defScope s_law_some_kinds) (N := ["deck", "most", "room"]) (tgs := ["k"]) (outs := [0, 2]) (N' := ["k", "deck", "room"]) ⟨rfl, by decide +kernel, by decide +kernel, by decide +kernel, rfl, by decide +kernel, by decide +kernel, by decide +kernel⟩ (pi_range1 rfl m_range (pa_cons (pe_op op_mod (pe_call GNX (hr.mono h1) rfl mNX kNX bNX .nil pass0 (pa_cons (pv 0) pa_nil)) (pe_op op_add (pv 1) pe_int)) pa_nil)) (fun _ _ _ _ _ => (pg_name (i := 0) (show (["k", "deck", "room"] : List Str).Nodup by decide +kernel) rfl (Or.inl rfl) (.inr rfl))) (tgt_name (by decide)) (fun _ _ _ _ _ => pcs_nil) (fun _ _ _ _ _ => (pe_call GBO hr rfl mBO kBO bBO .nil pass0 (pa_cons (pv 1) (pa_cons pe_int (pa_cons (pv 2) pa_nil)))))))))), ?_⟩
  refine ⟨lists3 4 (by decide), fun s0 hs0 => ⟨_, rfl, p, rfl, hP.same (same_new hs0 _), fun r H1 r0 r1 e1 hP1 => ?_⟩⟩
  have a0 : (0 : Int) ≤ r % 8 := Int.emod_nonneg _ (by decide)
  have a1 : r % 8 < 8 := Int.emod_lt_of_pos _ (by decide)
  obtain ⟨vz, hv, hvm⟩ := atI_in (xs := [V.int 12, V.int 40, V.int 40, V.int 2000]) (i := r % 8 / 2) (by omega) (by show r % 8 / 2 < 4; omega)
  obtain ⟨z, rfl, hz0, hz1⟩ := four_room hvm
  refine ⟨_, _, rfl, rfl, (by show (0 : Int) < 8; decide), _, _, rfl, rfl, ⟨by decide, by decide⟩, s0, _, _, _, rfl, rfl, SqL.of (e1.get (hP.ne hs0) upd_same), hv, ?_⟩
  have e01 : SameX p H H1 := (SameX.of (same_new hs0 _)).trans e1
  refine ⟨fun σ H' => ∃ z' : Int, σ = [some (.ref p), some (.int m), some (.int z')] ∧ 12 ≤ z' ∧ z' ≤ 2000 ∧ SameX p H H' ∧ DeckAt p H', ?_, ?_⟩
  · refine ⟨_, rfl, rfl, _, rfl, ite2 (fun c => ?_) (fun c => iteF ⟨z, rfl, hz0, hz1, e01, hP1⟩)⟩
    refine ⟨_, rfl, p, rfl, hP1, fun r2 H2 r20 r21 e2 hP2 => ⟨_, _, rfl, rfl, (by show (0 : Int) < 2; decide), rfl, _, rfl, ite2 (fun c => ?_) (fun c => ?_)⟩⟩
    · exact ⟨12, rfl, by decide, by decide, e01.trans e2, hP2⟩
    · exact ⟨z, rfl, hz0, hz1, e01.trans e2, hP2⟩
  rintro σ H2 ⟨z', rfl, z0, z1, e2, hP2⟩
  refine ⟨_, rfl, p, rfl, hP2, fun r2 H3 r20 r21 e3 hP3 => ⟨_, rfl, _, _, rfl, rfl, _, _, rfl, rfl, (by show 0 < m + 1; omega), ?_⟩⟩
  have g0 : (0 : Int) ≤ r2 % (m + 1) := Int.emod_nonneg _ (by omega)
  have g1 : r2 % (m + 1) < m + 1 := Int.emod_lt_of_pos _ (by omega)
  refine ⟨_, rfl, by omega, by omega, ?_⟩
  refine comp_range (fun i acc H' => ∃ ks : List Kd, ks.length = i ∧ IsDs (hide p H') (dtK ks) acc ∧ fitK ks ∧ deepK ks ≤ 4 ∧ (∀ r ∈ rmK ks, r.1 ≤ 2000) ∧ SameX p H H' ∧ DeckAt p H') (by omega) ⟨[], rfl, rfl, trivial, Nat.zero_le _, fun r hr => (nomatch hr), e2.trans e3, hP3⟩ (fun i acc H' hi ⟨ks, ef, eD, _⟩ => by rw [eD.len, dtK_len, ef]; exact Nat.le_refl _) (fun i acc H' hi ⟨ks, ef, eD, eF, edp, erm, eS, eP⟩ => ?_) (fun acc H' ⟨ks, ef, eD, eF, edp, erm, eS, eP⟩ l2 hn2 => ?_)
  · refine nameYes ?_
    refine ⟨_, rfl, _, rfl, p, 4, z', rfl, eP, by decide, by decide, by omega, fun kd v H6 e6 hD hF hdp hrm hP6 => ?_⟩
    refine ⟨ks ++ [kd], by rw [List.length_append, ef]; rfl, ?_, fitK_snoc eF hF, deepK_snoc edp (by omega), fun r hr => ?_, eS.trans e6, hP6⟩
    · rw [dtK_snoc]
      exact (eD.same e6).snoc hD
    · rw [rmK_snoc] at hr
      rcases List.mem_append.mp hr with hr | hr
      · exact erm r hr
      · rw [List.mem_singleton.mp hr]
        omega
  · have hl2 : l2 ≠ p := eP.ne hn2
    exact q ks (.ref l2) _ (eS.trans (SameX.of (same_new hn2 _))) ⟨l2, acc, rfl, by rw [hide_ne hl2]; exact upd_same, eD.same (SameX.of (same_new hn2 _))⟩ eF edp (by omega) erm (eP.same (same_new hn2 _))
end

theorem comp_zipN {t1 t2 : Bool} {K : PySem.W.Frag} {a b : Addr} {xs ys : List V} {n : Nat} {g : TG} {tc : TT} {te : TE} {σ' : St} {H1 : Hp} {Fin : List V → Hp → Prop} (Pv : Nat → List V → Hp → Prop) (he : n = min xs.length ys.length) (hz : n ≤ 1000000) (h0 : Pv 0 [] H1)
    (hl : ∀ i acc H, i ≤ n → Pv i acc H → Sq t1 K H a xs ∧ Sq t2 K H b ys ∧ acc.length ≤ i)
    (hs : ∀ i x y p acc H, xs[i]? = some x → ys[i]? = some y → Pv i acc H → H p = none → g (.ref p) σ' (upd H p (.tup [x, y])) fun σ2 H2 => tc σ2 H2 fun b H3 => if b = true then te σ2 H3 fun y H4 => Pv (i + 1) (acc ++ [y]) H4 else Pv (i + 1) acc H3) (hd : ∀ acc H, Pv n acc H → Fin acc H) :
    ∃ W : Nat → Nat → List V → Hp → Prop, (∃ m, W 0 m [] H1) ∧ ∀ i m acc H, W i m acc H → ((Itz t1 t2 K a b).stop i H ∧ acc.length ≤ sizeLine ∧ Fin acc H) ∨
      ((Itz t1 t2 K a b).go i H ∧ acc.length < sizeLine ∧ ∃ N : List V → Hp → Prop, (∀ acc' H', N acc' H' → ∃ m', m' < m ∧ W (i + 1) m' acc' H') ∧ ∀ x H', (Itz t1 t2 K a b).yld i H x H' → g x σ' H' fun σ2 H2 => tc σ2 H2 fun b H3 => if b = true then te σ2 H3 fun y H4 => N (acc ++ [y]) H4 else N acc H3) := by
  have zl : (1000000 : Nat) < sizeLine := by rw [sizeLine_eq]; decide
  refine ⟨fun i m acc H => m = n - i ∧ i ≤ n ∧ Pv i acc H, ⟨n, by simp, Nat.zero_le _, h0⟩, ?_⟩
  rintro i m acc H ⟨rfl, hi, p⟩
  obtain ⟨q1, q2, al⟩ := hl i acc H hi p
  by_cases hlt : i < n
  · refine .inr ⟨⟨xs, ys, xs[i]'(by omega), ys[i]'(by omega), q1, q2, List.getElem?_eq_getElem (by omega), List.getElem?_eq_getElem (by omega)⟩, by omega, Pv (i + 1), fun acc' H' p' => ⟨n - (i + 1), by omega, rfl, hlt, p'⟩, fun x H' y => ?_⟩
    obtain ⟨pp, x', y', rfl, hp, rfl, e⟩ := y
    obtain ⟨e1, e2⟩ := e xs ys q1 q2
    exact hs i x' y' pp acc H e1 e2 p hp
  · have e : i = n := by omega
    subst e
    exact .inl ⟨⟨xs, ys, q1, q2, by omega⟩, by omega, hd acc H p⟩
theorem cut_n (xs : List V) (i : Nat) : cutV xs none (some (i : Int)) = xs.take i := by
  unfold cutV
  rw [HT.sIx_nat]
  show (xs.drop 0).take (min i xs.length - 0) = _
  rw [List.drop_zero, Nat.sub_zero]
  by_cases h : i ≤ xs.length
  · rw [Nat.min_eq_left h]
  · rw [Nat.min_eq_right (by omega), List.take_length, List.take_of_length_le (by omega)]
theorem cut_from (xs : List V) (i : Nat) : cutV xs (some (i : Int)) none = xs.drop i := by
  unfold cutV
  rw [HT.sIx_nat]
  show (xs.drop (min i xs.length)).take (xs.length - min i xs.length) = _
  by_cases h : i ≤ xs.length
  · rw [Nat.min_eq_left h, List.take_of_length_le (by rw [List.length_drop]; exact Nat.le_refl _)]
  · rw [Nat.min_eq_right (by omega), List.drop_length, List.drop_of_length_le (by omega), List.take_nil]
def prL (l : List Int) : Int × Int := (l.getD 0 0, l.getD 1 0)
theorem pairs_ts {H : Hp} : ∀ {sts : List (Int × Int)} {ws : List V}, IsDs H (sts.map rdt) ws → ∃ ts : List TI2, ws = ts.map (fun t => V.ref t.1) ∧ ts.map (·.2) = sts.map (fun s => [s.1, s.2]) ∧ ∀ t ∈ ts, H t.1 = some (.tup (t.2.map V.int))
  | [], _, h => ⟨[], h, rfl, fun t ht => (nomatch ht)⟩
  | s :: sts, _, ⟨v, vr, h1, ⟨a, vs, q1, q2, u1, r1, q3, q4, u2, r2, q5, q6, q7⟩, h3⟩ => by
    subst h1 q1 q3 q5 q7
    cases q4
    cases q6
    obtain ⟨ts, a1, a2, a3⟩ := pairs_ts h3
    refine ⟨(a, [s.1, s.2]) :: ts, by rw [a1]; rfl, by rw [List.map_cons, List.map_cons, a2], fun t ht => ?_⟩
    rcases List.mem_cons.mp ht with e | e
    · rw [e]; exact q2
    · exact a3 t e
theorem ts_pairs {H : Hp} : ∀ {us : List TI2}, (∀ t ∈ us, H t.1 = some (.tup (t.2.map V.int)) ∧ ∃ s : Int × Int, t.2 = [s.1, s.2]) → IsDs H ((us.map fun t => prL t.2).map rdt) (us.map fun t => V.ref t.1)
  | [], _ => rfl
  | (a, l) :: us, h => by
    obtain ⟨h1, s, e⟩ := h (a, l) List.mem_cons_self
    have e' : l = [s.1, s.2] := e
    subst e'
    exact ⟨_, _, rfl, ⟨a, _, rfl, h1, _, _, rfl, rfl, _, _, rfl, rfl, rfl⟩, ts_pairs fun t ht => h t (List.mem_cons_of_mem _ ht)⟩
theorem lex_fst {s t : Int × Int} (h : HT.lexLt [t.1, t.2] [s.1, s.2] = false) : s.1 ≤ t.1 := by
  rw [HT.lexLt_cons] at h
  by_cases c : t.1 = s.1
  · omega
  · rw [if_neg c] at h
    have := of_decide_eq_false h
    omega
theorem sorted_st {H : Hp} {sts : List (Int × Int)} {ts us : List TI2} (h1 : ts.map (·.2) = sts.map (fun s => [s.1, s.2])) (h2 : ∀ t ∈ ts, H t.1 = some (.tup (t.2.map V.int))) (hp : us.Perm ts) (hw : us.Pairwise fun x y => HT.lexLt y.2 x.2 = false) :
    (us.map fun t => prL t.2).Perm sts ∧ (us.map fun t => prL t.2).Pairwise (fun s t => s.1 ≤ t.1) ∧ IsDs H ((us.map fun t => prL t.2).map rdt) (us.map fun t => V.ref t.1) := by
  have hsh : ∀ t ∈ us, ∃ s : Int × Int, t.2 = [s.1, s.2] := fun t ht => by
    have h3 : t.2 ∈ ts.map (·.2) := List.mem_map.mpr ⟨t, hp.mem_iff.mp ht, rfl⟩
    rw [h1] at h3
    obtain ⟨s, _, e⟩ := List.mem_map.mp h3
    exact ⟨s, e.symm⟩
  refine ⟨?_, ?_, ts_pairs fun t ht => ⟨h2 t (hp.mem_iff.mp ht), hsh t ht⟩⟩
  · have a : (us.map fun t => prL t.2).Perm (ts.map fun t => prL t.2) := hp.map _
    have b : (ts.map fun t => prL t.2) = sts := by
      have : (ts.map fun t => prL t.2) = (ts.map (·.2)).map prL := by rw [List.map_map]; rfl
      rw [this, h1, List.map_map]
      have e : (prL ∘ fun s : Int × Int => [s.1, s.2]) = id := by funext s; rfl
      rw [e, List.map_id]
    rw [b] at a
    exact a
  · rw [List.pairwise_map]
    refine List.Pairwise.imp_of_mem ?_ hw
    intro x y hx hy h
    obtain ⟨s, es⟩ := hsh x hx
    obtain ⟨t, et⟩ := hsh y hy
    rw [es, et] at h ⊢
    exact lex_fst h
theorem dj_perm {a b : List (Int × Int)} (h : a.Perm b) (hd : b.Pairwise Dj) : a.Pairwise Dj := (h.pairwise_iff (fun {x y} hxy => Dj.symm hxy)).mpr hd
def spIW : Sp := fun vs H Q _ => ∃ i : Int, vs = [.int i] ∧ Q (.bl true) H

theorem iteNT {c A B : Prop} [Decidable c] (hc : ¬ c) (h : A) : if (!decide c) = true then A else B := by
  rw [decide_eq_false hc]
  exact iteT h
def RmOk (rs : List (Int × Int)) : Prop := rs.length ≤ 6 ∧ ∀ r ∈ rs, 1 ≤ r.1 ∧ r.1 ≤ 2000 ∧ 1 ≤ r.2 ∧ r.2 ≤ 8
def IsP (rs ly : List (Int × Int)) (ps : List Int) : Prop := ps.length = rs.length ∧ (∀ q ∈ rs.zip ps, 0 ≤ q.2 ∧ q.2 % q.1.2 = 0) ∧ ((rs.zip ps).map stOf ++ ly).Pairwise Dj
def okB (q : (Int × Int) × Int) : Bool := decide (0 ≤ q.2) && decide (q.2 % q.1.2 = 0)
theorem okB_iff {q : (Int × Int) × Int} : okB q = true ↔ 0 ≤ q.2 ∧ q.2 % q.1.2 = 0 := by
  unfold okB
  rw [Bool.and_eq_true, decide_eq_true_eq, decide_eq_true_eq]
theorem all_okB {l : List ((Int × Int) × Int)} : (l.map okB).all id = true ↔ ∀ q ∈ l, 0 ≤ q.2 ∧ q.2 % q.1.2 = 0 := by
  rw [List.all_eq_true]
  constructor
  · intro h q hq
    exact okB_iff.mp (h _ (List.mem_map.mpr ⟨q, hq, rfl⟩))
  · intro h b hb
    obtain ⟨q, hq, rfl⟩ := List.mem_map.mp hb
    exact okB_iff.mpr (h q hq)
def adjB (us : List (Int × Int)) : List Bool := (List.range (us.length - 1)).map fun k => decide ((rk us k).2 ≤ (rk us (k + 1)).1)
theorem adj_iff {us : List (Int × Int)} (h1 : ∀ s ∈ us, 0 ≤ s.1 ∧ s.1 < s.2) (h2 : us.Pairwise fun s t => s.1 ≤ t.1) : (adjB us).all id = true ↔ us.Pairwise Dj := by
  unfold adjB
  rw [List.all_eq_true]
  have hk : ∀ k, k < us.length → us[k]? = some (rk us k) := fun k hk => by
    rw [rk_at (List.getElem?_eq_getElem hk)]
    exact List.getElem?_eq_getElem hk
  constructor
  · intro h
    have h' : ∀ k, k + 1 < us.length → (rk us k).2 ≤ (rk us (k + 1)).1 := fun k hk => of_decide_eq_true (h _ (List.mem_map.mpr ⟨k, List.mem_range.mpr (by omega), rfl⟩))
    rw [List.pairwise_iff_getElem] at h2 ⊢
    intro i j hi hj hij
    left
    have a := h' i (by omega)
    rw [rk_at (List.getElem?_eq_getElem hi), rk_at (List.getElem?_eq_getElem (show i + 1 < us.length by omega))] at a
    by_cases c : i + 1 = j
    · subst c
      exact a
    · have b := h2 (i + 1) j (by omega) hj (by omega)
      exact Int.le_trans a b
  · intro h b hb
    obtain ⟨k, hk', rfl⟩ := List.mem_map.mp hb
    have hk2 := List.mem_range.mp hk'
    have hR := (rising_of h1 h2 h).2
    rw [List.pairwise_iff_getElem] at hR
    have := hR k (k + 1) (by omega) (by omega) (by omega)
    rw [← rk_at (List.getElem?_eq_getElem (show k < us.length by omega)), ← rk_at (List.getElem?_eq_getElem (show k + 1 < us.length by omega))] at this
    exact decide_eq_true this
theorem st_pos {rs ly : List (Int × Int)} {ps : List Int} (hR : RmOk rs) (hL : Rising ly) (h : ∀ q ∈ rs.zip ps, 0 ≤ q.2 ∧ q.2 % q.1.2 = 0) : ∀ s ∈ (rs.zip ps).map stOf ++ ly, 0 ≤ s.1 ∧ s.1 < s.2 := fun s hs => by
  rcases List.mem_append.mp hs with hs | hs
  · obtain ⟨q, hq, rfl⟩ := List.mem_map.mp hs
    have a := (h q hq).1
    have b := (hR.2 q.1 (List.of_mem_zip hq).1).1
    show 0 ≤ q.2 ∧ q.2 < q.2 + q.1.1
    omega
  · exact hL.1 s hs
def spIL : Sp := fun vs H Q _ => ∃ i m : Int, vs = [.int i, .int m] ∧ 0 < m ∧ Q (.bl (decide (0 ≤ i) && decide (i % m = 0))) H
def spSN : Sp := fun vs H Q _ => ∃ (a : Addr) (ws : List V) (us : List (Int × Int)), vs = [.ref a] ∧ H a = some (.lst ws) ∧ IsDs H (us.map rdt) ws ∧ us.length ≤ 1000 ∧ ∀ H', Same H H' → Q (.bl ((adjB us).all id)) H'
def spIS (n : Nat) : Sp := fun vs H Q _ => ∃ (c a b : Addr) (cv lv : List V) (ks : List Kd) (ly : List (Int × Int)) (ps : List Int), vs = [.ref c, .ref a, .ref b] ∧ H c = some (.lst cv) ∧ IsDs H (dtK ks) cv ∧ okK ks ∧ deepK ks ≤ n ∧ n ≤ 12 ∧ H a = some (.lst lv) ∧ IsDs H (ly.map rdt) lv ∧ H b = some (.lst (ps.map V.int)) ∧ RmOk (rmK ks) ∧ LyOk ly ∧ ps.length ≤ 20 ∧ ∀ (r : Bool) H', Same H H' → (r = true ↔ IsP (rmK ks) ly ps) → Q (.bl r) H'
section
variable {P : Program} {w : World} {K : PySem.W.Frag} {mg : Str → Option Value} {base : Heap} {f fIW fIL fSN fRS fSA : Addr} {fd dIW dIL dSN dRS dSA : FuncData} {n j : Nat}
theorem ok_iw (F : Fun K "is_whole" "is_whole" s_is_whole f fd) (m_isinstance : mg "isinstance" = none) (m_int : mg "int" = none) (m_bool : mg "bool" = none) : FnOk P w K mg base CX0 1 f fd ["thing"] spIW := by
  refine F.ok sc_is_whole (fun vs H Q E h => ?_) (fun cdv A outer s H vs Q E hr h => ?_)
  · obtain ⟨i, rfl, _⟩ := h
    rfl
  obtain ⟨i, rfl, q⟩ := h
  refine ⟨_, (pss_one (ps_ret (pe_and (pe_callB call_isinst rfl m_isinstance bt_isinstance (pa_cons (pv 0) (pa_cons (pe_bltn (v := .ty "int") rfl m_int bt_int rfl) pa_nil))) (pe_one (pe_not (pe_callB call_isinst rfl m_isinstance bt_isinstance (pa_cons (pv 0) (pa_cons (pe_bltn (v := .ty "bool") rfl m_bool bt_bool rfl) pa_nil)))))))), ?_⟩
  exact ⟨_, rfl, _, _, _, _, rfl, .int _, kit_self _, _, rfl, iteT ⟨_, rfl, _, _, _, _, rfl, .int _, kit_int_bool, _, rfl, q⟩⟩
theorem ok_il (F : Fun K "is_place" "is_place" s_is_place f fd) (xIW : Fx K mg "is_whole" s_is_whole ["thing"] fIW dIW) (GIW : FnOk P w K mg base CX0 1 fIW dIW ["thing"] spIW) : FnOk P w K mg base CX0 2 f fd ["thing", "multiple"] spIL := by
  refine F.ok sc_is_place (fun vs H Q E h => ?_) (fun cdv A outer s H vs Q E hr h => ?_)
  · obtain ⟨i, m, rfl, _⟩ := h
    rfl
  obtain ⟨i, m, rfl, hm, q⟩ := h
  have bIW := xIW.b
  have kIW := xIW.k
  have mIW := xIW.m
  refine ⟨_, (pss_one (ps_ret (pe_and (pe_call GIW hr rfl mIW kIW bIW .nil pass0 (pa_cons (pv 0) pa_nil)) (pe_and (pe_cmpR op_ge (pv 0) pe_int (nomark _)) (pe_one (pe_cmpR op_eq (pe_op op_mod (pv 0) (pv 1)) pe_int (nomark _))))))), ?_⟩
  refine ⟨_, rfl, i, rfl, _, rfl, iteT ⟨_, rfl, _, _, rfl, rfl, _, rfl, ?_⟩⟩
  by_cases h0 : i ≥ 0
  · refine iteDT h0 ⟨_, rfl, _, rfl, _, _, rfl, rfl, hm, rfl, ?_⟩
    have e : decide (V.int (i % m) = V.int 0) = (decide (0 ≤ i) && decide (i % m = 0)) := by
      rw [decide_eq_true (show 0 ≤ i from h0), Bool.true_and, Bool.eq_iff_iff, decide_eq_true_eq, decide_eq_true_eq]
      exact ⟨fun z => V.int.inj z, fun z => congrArg V.int z⟩
    show Q (.bl (decide (V.int (i % m) = V.int 0))) H
    rw [e]
    exact q
  · refine iteND h0 ?_
    have e : (decide (0 ≤ i) && decide (i % m = 0)) = false := by
      rw [decide_eq_false (show ¬ 0 ≤ i from h0), Bool.false_and]
    rw [e] at q
    exact q
theorem ok_sn (F : Fun K "share_no_byte" "share_no_byte" s_share_no_byte f fd) (m_all : mg "all" = none) (m_zip : mg "zip" = none) : FnOk P w K mg base CX0 1 f fd ["rising"] spSN := by
  refine F.ok sc_share_no_byte (fun vs H Q E h => ?_) (fun cdv A outer s H vs Q E hr h => ?_)
  · obtain ⟨a, ws, us, rfl, _⟩ := h
    rfl
  obtain ⟨a, ws, us, rfl, ha, hws, hl, q⟩ := h
  have hlw : ws.length = us.length := by rw [hws.len, List.length_map]
  refine ⟨_, (pss_one (ps_ret (pe_callB (call_allL rfl) rfl m_all bt_all (pa_cons (pe_comp (dsc := defScope s_share_no_byte) (N := ["rising"]) (tgs := ["ahead", "behind"]) (outs := []) (N' := ["ahead", "behind"]) ⟨rfl, by decide +kernel, by decide +kernel, by decide +kernel, rfl, by decide +kernel, by decide +kernel, by decide +kernel⟩ (pi_zip (t1 := false) (t2 := false) rfl m_zip (pa_cons (pv 0) (pa_cons (pe_slice sl_list (pv 0) (po_some pe_int) po_none) pa_nil))) (fun _ _ _ _ _ => (pg_tupK K (n := 2) rfl rfl (pgs_cons (pg_name (i := 0) (show (["ahead", "behind"] : List Str).Nodup by decide +kernel) rfl (Or.inl rfl) (.inr rfl)) (pgs_cons (pg_name (i := 1) (show (["ahead", "behind"] : List Str).Nodup by decide +kernel) rfl (Or.inl rfl) (.inr rfl)) pgs_nil)))) (tgt_tup (tgts_name (by decide) (tgts_name (by decide) tgts_nil tmono_nil) (tmono_name tmono_nil))) (fun _ _ _ _ _ => pcs_nil) (fun _ _ _ _ _ => (pe_cmpR op_le (pe_ix (ix_tupK K) (pv 0) pe_int (fun _ _ => rfl)) (pe_ix (ix_tupK K) (pv 1) pe_int (fun _ _ => rfl)) (nomark _)))) pa_nil)))), ?_⟩
  refine ⟨_, rfl, _, rfl, _, rfl, a, _, rfl, SqL.of ha, fun p hp => ?_⟩
  have hcf : cutV ws (some 1) none = ws.drop 1 := cut_from ws 1
  rw [hcf]
  have s1 := same_new hp (.lst (ws.drop 1))
  refine ⟨a, p, rfl, ⟨_, SqL.of (s1 _ _ ha)⟩, ⟨_, SqL.of upd_same⟩, ?_⟩
  have hld : (ws.drop 1).length = ws.length - 1 := List.length_drop
  refine comp_zipN (t1 := false) (t2 := false) (xs := ws) (ys := ws.drop 1) (n := ws.length - 1) (fun i acc H' => Same (upd H p (.lst (ws.drop 1))) H' ∧ acc = ((adjB us).take i).map V.bl) (by omega) (by omega) ⟨Same.refl _, rfl⟩
    (fun i acc H' hi ⟨e, ea⟩ => ⟨SqL.of (e _ _ (s1 _ _ ha)), SqL.of (e _ _ upd_same), by rw [ea, List.length_map, List.length_take]; omega⟩) (fun i x y pp acc H' hx hy ⟨e, ea⟩ hpn => ?_) (fun acc H2 ⟨e2, ea⟩ lc hlc => ?_)
  · rw [List.getElem?_drop] at hy
    obtain ⟨st, p1, e1, rfl, hp1⟩ := rooms_at hws hx
    obtain ⟨tt, p2, e2, rfl, hp2⟩ := rooms_at hws hy
    have en := e.trans (same_new hpn (.tup [.ref p1, .ref p2]))
    have h1 := en _ _ (s1 _ _ hp1)
    have h2 := en _ _ (s1 _ _ hp2)
    refine ⟨pp, _, rfl, SqT.of upd_same, rfl, _, _, rfl, _, _, rfl, rfl, ?_⟩
    refine yesT ?_
    refine ⟨_, rfl, p1, _, _, _, rfl, rfl, SqT.of h1, rfl, _, rfl, p2, _, _, _, rfl, rfl, SqT.of h2, rfl, _, _, rfl, rfl, en, ?_⟩
    have hb : (adjB us)[i]? = some (decide (st.2 ≤ tt.1)) := by
      unfold adjB
      have hi : i + 1 < us.length := by
        have := (List.getElem?_eq_some_iff.mp e2).1
        omega
      rw [List.getElem?_map, List.getElem?_range (by omega)]
      show some (decide ((rk us i).2 ≤ (rk us (i + 1)).1)) = _
      rw [rk_at e1, rk_at (by rw [Nat.add_comm]; exact e2)]
    rw [ea, take_snoc hb, List.map_append]
    rfl
  have hla : (adjB us).length = ws.length - 1 := by unfold adjB; rw [List.length_map, List.length_range, hlw]
  rw [← hla, List.take_length] at ea
  refine ⟨lc, adjB us, rfl, SqL.of (by rw [upd_same, ea]), ?_⟩
  exact q _ ((s1.trans e2).trans (same_new hlc _))
set_option maxHeartbeats 8000000 in
theorem ok_is (F : Fun K "is_placing" "is_placing" s_is_placing f fd) (xRS : Fx K mg "rooms_of" s_rooms_of ["kinds"] fRS dRS) (xIL : Fx K mg "is_place" s_is_place ["thing", "multiple"] fIL dIL) (xSN : Fx K mg "share_no_byte" s_share_no_byte ["rising"] fSN dSN) (xSA : Fx K mg "stretches_at" s_stretches_at ["rooms", "places"] fSA dSA)
    (GRS : FnOk P w K mg base CX0 j fRS dRS ["kinds"] (spRS n)) (GIL : FnOk P w K mg base CX0 2 fIL dIL ["thing", "multiple"] spIL) (GSN : FnOk P w K mg base CX0 1 fSN dSN ["rising"] spSN) (GSA : FnOk P w K mg base CX0 1 fSA dSA ["rooms", "places"] spSA) (hj : j ≤ 20)
    (m_isinstance : mg "isinstance" = none) (m_list : mg "list" = none) (m_len : mg "len" = none) (m_all : mg "all" = none) (m_zip : mg "zip" = none) (m_sorted : mg "sorted" = none) : FnOk P w K mg base CX0 21 f fd ["kinds", "lying", "places"] (spIS n) := by
  refine F.ok sc_is_placing (fun vs H Q E h => ?_) (fun cdv A outer s H vs Q E hr h => ?_)
  · obtain ⟨c, a, b, cv, lv, ks, ly, ps, rfl, _⟩ := h
    rfl
  obtain ⟨c, a, b, cv, lv, ks, ly, ps, rfl, hc, hcv, hok, hdp, hn, ha, hlv, hb, hR, hL, h20, q⟩ := h
  have bRS := xRS.b
  have kRS := xRS.k
  have mRS := xRS.m
  have bIL := xIL.b
  have kIL := xIL.k
  have mIL := xIL.m
  have bSN := xSN.b
  have kSN := xSN.k
  have mSN := xSN.m
  have bSA := xSA.b
  have kSA := xSA.k
  have mSA := xSA.m
  have h1 : 1 ≤ 20 := by decide
  have h2 : 2 ≤ 20 := by decide
  have h5 := hR.1
  have hlk : (rmK ks).length = ks.length := lenK ks
  have hlc : cv.length = ks.length := by rw [hcv.len, dtK_len]
  have hlm : (ps.map V.int).length = ps.length := List.length_map _
  have hll : lv.length = ly.length := by rw [hlv.len, List.length_map]
  have hl20 := hL.2.1
  refine ⟨_, (pss_cons (ps_if (PW.pt (pw_or (pt_not (pt_val (pe_callB call_isinst rfl m_isinstance bt_isinstance (pa_cons (pv 2) (pa_cons (pe_bltn (v := .ty "list") rfl m_list bt_list rfl) pa_nil))))) (pw_or1 (pt_cmpR op_ne (pe_callB call_len_seq rfl m_len PySem.boot_len (pa_cons (pv 2) pa_nil)) (pe_callB call_len_seq rfl m_len PySem.boot_len (pa_cons (pv 0) pa_nil)) (nomark _))))) (pss_one (ps_ret pe_bl)) pss_nil)
    (pss_cons (ps_set (i := 3) sc_is_placing.nd rfl (Or.inl rfl) (pe_call GRS (hr.mono hj) rfl mRS kRS bRS .nil pass0 (pa_cons (pv 0) pa_nil)))
    (pss_cons (ps_if (pt_not (pt_val (pe_callB (call_allL rfl) rfl m_all bt_all (pa_cons (pe_comp (dsc := defScope s_is_placing) (N := ["kinds", "lying", "places", "rooms"]) (tgs := ["place", "room"]) (outs := []) (N' := ["place", "room"]) ⟨rfl, by decide +kernel, by decide +kernel, by decide +kernel, rfl, by decide +kernel, by decide +kernel, by decide +kernel⟩ (pi_zip (t1 := false) (t2 := false) rfl m_zip (pa_cons (pv 2) (pa_cons (pv 3) pa_nil))) (fun _ _ _ _ _ => (pg_tupK K (n := 2) rfl rfl (pgs_cons (pg_name (i := 0) (show (["place", "room"] : List Str).Nodup by decide +kernel) rfl (Or.inl rfl) (.inr rfl)) (pgs_cons (pg_name (i := 1) (show (["place", "room"] : List Str).Nodup by decide +kernel) rfl (Or.inl rfl) (.inr rfl)) pgs_nil)))) (tgt_tup (tgts_name (by decide) (tgts_name (by decide) tgts_nil tmono_nil) (tmono_name tmono_nil))) (fun _ _ _ _ _ => pcs_nil) (fun _ _ _ _ _ => (pe_call GIL (hr.mono h2) rfl mIL kIL bIL .nil pass0 (pa_cons (pv 0) (pa_cons (pe_ix (ix_tupK K) (pv 1) pe_int (fun _ _ => rfl)) pa_nil))))) pa_nil)))) (pss_one (ps_ret pe_bl)) pss_nil)
    (pss_one (ps_ret (pe_call GSN (hr.mono h1) rfl mSN kSN bSN .nil pass0 (pa_cons (pe_callB call_sortedT rfl m_sorted bt_sorted (pa_cons (pe_op op_cat (pe_call GSA (hr.mono h1) rfl mSA kSA bSA .nil pass0 (pa_cons (pv 3) (pa_cons (pv 2) pa_nil))) (pv 1)) pa_nil)) pa_nil))))))), ?_⟩
  refine ⟨_, rfl, _, _, _, _, rfl, .lst hb, kit_self _, _, rfl, iteF ⟨_, rfl, b, _, rfl, .inl (SqL.of hb), _, rfl, c, _, rfl, .inl (SqL.of hc), rfl, _, rfl, ?_⟩⟩
  by_cases hlp : ps.length = (rmK ks).length
  case neg =>
    refine iteNT (fun z => hlp (by have := V.int.inj z; rw [hlm, hlc] at this; omega)) ?_
    exact q false H (Same.refl _) ⟨fun z => (nomatch z), fun z => absurd z.1 hlp⟩
  refine iteNS (by rw [hlm, hlc, hlp, hlk]) ?_
  refine ⟨_, rfl, c, cv, ks, rfl, hc, hcv, hok, hdp, by omega, hn, fun lr zr H1 e1 hlr hzr => ?_⟩
  have hb1 := e1 _ _ hb
  have hlz : zr.length = (rmK ks).length := by rw [hzr.len, List.length_map]
  refine ⟨_, rfl, _, rfl, b, lr, rfl, ⟨_, SqL.of hb1⟩, ⟨_, SqL.of hlr⟩, ?_⟩
  refine comp_zip (t1 := false) (t2 := false) (xs := ps.map V.int) (ys := zr) (fun i acc H' => Same H1 H' ∧ acc = ((((rmK ks).zip ps).map okB).take i).map V.bl) (by omega) (by omega) ⟨Same.refl _, rfl⟩
    (fun i acc H' hi ⟨e, ea⟩ => ⟨SqL.of (e _ _ hb1), SqL.of (e _ _ hlr), by rw [ea, List.length_map, List.length_take]; omega⟩) (fun i x y p acc H' hx hy ⟨e, ea⟩ hpn => ?_) (fun acc H2 ⟨e2, ea⟩ lc hlc0 => ?_)
  · obtain ⟨r, p2, er, rfl, hp2⟩ := rooms_at hzr hy
    have hi : i < (rmK ks).length := (List.getElem?_eq_some_iff.mp er).1
    rw [List.getElem?_map] at hx
    cases ep : ps[i]? with
    | none => rw [ep] at hx; cases hx
    | some pl =>
      rw [ep] at hx
      cases hx
      have en : Same H1 (upd H' p (.tup [.int pl, .ref p2])) := e.trans (same_new hpn _)
      obtain ⟨g1, g2, g3, g4⟩ := hR.2 r (List.mem_of_getElem? er)
      refine ⟨p, _, rfl, SqT.of upd_same, rfl, _, _, rfl, _, _, rfl, rfl, ?_⟩
      refine yesT ?_
      refine ⟨_, rfl, _, rfl, p2, _, _, _, rfl, rfl, SqT.of (en _ _ hp2), rfl, pl, r.2, rfl, by omega, en, ?_⟩
      have hb : (((rmK ks).zip ps).map okB)[i]? = some (decide (0 ≤ pl) && decide (pl % r.2 = 0)) := by
        rw [List.getElem?_map, (List.getElem?_zip_eq_some (z := (r, pl))).mpr ⟨er, ep⟩]
        rfl
      rw [ea, take_snoc hb, List.map_append]
      rfl
  have s3 := same_new hlc0 (.lst acc)
  have hla : (((rmK ks).zip ps).map okB).length = (ps.map V.int).length := by rw [List.length_map, List.length_zip, hlm]; omega
  rw [← hla, List.take_length] at ea
  refine ⟨lc, ((rmK ks).zip ps).map okB, rfl, SqL.of (by rw [upd_same, ea]), _, rfl, ?_⟩
  have e13 := e2.trans s3
  cases hall : (((rmK ks).zip ps).map okB).all id with
  | false => exact iteT (q false _ (e1.trans e13) ⟨fun z => (nomatch z), fun z => by rw [all_okB.mpr z.2.1] at hall; exact absurd hall (by decide)⟩)
  | true => ?_
  have hall' := all_okB.mp hall
  refine iteF ?_
  refine ⟨_, rfl, _, rfl, lr, b, zr, rmK ks, ps, rfl, e13 _ _ hlr, hzr.same e13, e13 _ _ hb1, hlp, by omega, fun ls zs H3 e3 hls hzs => ?_⟩
  have e03 := (e1.trans e13).trans e3
  have hlzs : zs.length ≤ 6 := by rw [hzs.len, List.length_map, List.length_map, List.length_zip]; omega
  refine ⟨_, rfl, ls, a, _, _, rfl, rfl, hls, e03 _ _ ha, size5 (by omega), fun l4 hl4 => ?_⟩
  have s4 := same_new hl4 (.lst (zs ++ lv))
  have hallD : IsDs (upd H3 l4 (.lst (zs ++ lv))) ((((rmK ks).zip ps).map stOf ++ ly).map rdt) (zs ++ lv) := by rw [List.map_append]; exact IsDs.app ((hlv.same e03).same s4) (hzs.same s4)
  obtain ⟨ts, t1, t2, t3⟩ := pairs_ts hallD
  have hts : ts.length ≤ 26 := by
    have := congrArg List.length t1
    rw [List.length_map, List.length_append] at this
    omega
  refine ⟨l4, ts, rfl, SqL.of (by rw [upd_same, t1]), fun t ht => ⟨SqT.of (t3 t ht), fun z => ?_⟩, by omega, fun us hp hw l5 hl5 => ?_⟩
  · have h3 : t.2 ∈ ts.map (·.2) := List.mem_map.mpr ⟨t, ht, rfl⟩
    rw [t2, z] at h3
    obtain ⟨s, _, e⟩ := List.mem_map.mp h3
    cases e
  have s5 := same_new hl5 (.lst (us.map fun t => V.ref t.1))
  obtain ⟨u1, u2, u3⟩ := sorted_st t2 t3 hp hw
  have d2 := st_pos hR hL.1 hall'
  refine ⟨l5, _, us.map fun t => prL t.2, rfl, upd_same, u3.same s5, by rw [List.length_map, hp.length_eq]; omega, fun H6 e6 => q _ H6 (((e03.trans s4).trans s5).trans e6) ?_⟩
  rw [adj_iff (fun s hs => d2 s (u1.mem_iff.mp hs)) u2]
  exact ⟨fun z => ⟨hlp, hall', dj_perm u1.symm z⟩, fun z => dj_perm u1 z.2.2⟩
end

def spIP : Sp := fun vs H Q _ => ∃ (c a b : Addr) (zs lv : List V) (rs ly : List (Int × Int)) (ps : List Int), vs = [.ref c, .ref a, .ref b] ∧ H c = some (.lst zs) ∧ IsDs H (rs.map rdt) zs ∧ H a = some (.lst lv) ∧ IsDs H (ly.map rdt) lv ∧ H b = some (.lst (ps.map V.int)) ∧ RmOk rs ∧ LyOk ly ∧ ps.length ≤ 20 ∧ ∀ (r : Bool) H', Same H H' → (r = true ↔ IsP rs ly ps) → Q (.bl r) H'
theorem not_dj {a b : List (Int × Int)} {s t : Int × Int} (hs : s ∈ a) (ht : t ∈ b) (h : (a ++ b).Pairwise Dj) : Dj s t := (List.pairwise_append.mp h).2.2 s hs t ht
section
variable {P : Program} {w : World} {K : PySem.W.Frag} {mg : Str → Option Value} {base : Heap} {f : Addr} {fd : FuncData}
set_option maxHeartbeats 16000000 in
theorem ok_ip (F : Fun K "_law_is_placing" "_law_is_placing" s_law_is_placing f fd) (m_range : mg "range" = none) (m_list : mg "list" = none) (m_len : mg "len" = none) : FnOk P w K mg base CX0 1 f fd ["sizes", "lying", "places"] spIP := by
  refine F.ok sc_law_is_placing (fun vs H Q E h => ?_) (fun cdv A outer s H vs Q E hr h => ?_)
  · obtain ⟨c, a, b, zs, lv, rs, ly, ps, rfl, _⟩ := h
    rfl
  obtain ⟨c, a, b, zs, lv, rs, ly, ps, rfl, hc, hzs, ha, hlv, hb, hR, hL, h20, q⟩ := h
  have hu := hr.units0
  have h6 := hR.1
  have hl20 := hL.2.1
  have hlz : zs.length = rs.length := by rw [hzs.len, List.length_map]
  have hlp : (ps.map V.int).length = ps.length := List.length_map _
  refine ⟨_, (pss_cons (ps_if (pt_cmpR op_ne (pe_callB call_len_seq rfl m_len PySem.boot_len (pa_cons (pv 2) pa_nil)) (pe_callB call_len_seq rfl m_len PySem.boot_len (pa_cons (pv 0) pa_nil)) (nomark _)) (pss_one (ps_ret pe_bl)) pss_nil)
    (pss_cons (ps_set (i := 3) sc_law_is_placing.nd rfl (Or.inl rfl) (pe_callTy call_list_of rfl m_list bt_list (pa_cons (pv 1) pa_nil)))
    (pss_cons (ps_for PassesOwn.never rfl (pi_range1 rfl m_range (pa_cons (pe_callB call_len_seq rfl m_len PySem.boot_len (pa_cons (pv 0) pa_nil)) pa_nil)) (pg_name (i := 4) sc_law_is_placing.nd rfl (Or.inr rfl)) (pss_cons (ps_asg (pe_ix ix_list (pv 0) (pv 4) (fun _ _ => rfl)) (pg_tup rfl (pgs_cons (pg_name (i := 5) sc_law_is_placing.nd rfl (Or.inr rfl)) (pgs_cons (pg_name (i := 6) sc_law_is_placing.nd rfl (Or.inl rfl)) pgs_nil))))
    (pss_cons (ps_if (PW.pt (pw_or (pt_cmpR op_lt (pe_ix ix_list (pv 2) (pv 4) (fun _ _ => rfl)) pe_int (nomark _)) (pw_or1 (pt_cmpR op_ne (pe_op op_mod (pe_ix ix_list (pv 2) (pv 4) (fun _ _ => rfl)) (pv 6)) pe_int (nomark _))))) (pss_one (ps_ret pe_bl)) pss_nil)
    (pss_cons (ps_if (pt_cmpR (op_neNil hu) (pe_comp (dsc := defScope s_law_is_placing) (N := ["sizes", "lying", "places", "laid", "k", "room", "m"]) (tgs := ["low", "high"]) (outs := [2, 4, 5]) (N' := ["low", "high", "places", "k", "room"]) ⟨rfl, by decide +kernel, by decide +kernel, by decide +kernel, rfl, by decide +kernel, by decide +kernel, by decide +kernel⟩ (pi_list (pv 3)) (fun _ _ _ _ _ => (pg_tupK K (n := 2) rfl rfl (pgs_cons (pg_name (i := 0) (show (["low", "high", "places", "k", "room"] : List Str).Nodup by decide +kernel) rfl (Or.inl rfl) (.inr rfl)) (pgs_cons (pg_name (i := 1) (show (["low", "high", "places", "k", "room"] : List Str).Nodup by decide +kernel) rfl (Or.inl rfl) (.inr rfl)) pgs_nil)))) (tgt_tup (tgts_name (by decide) (tgts_name (by decide) tgts_nil tmono_nil) (tmono_name tmono_nil))) (fun _ _ _ _ _ => (pcs_one (PW.pt (pw_and (pt_cmpR op_lt (pv 0) (pe_op op_add (pe_ix (ix_listK K) (pv 2) (pv 3) (fun _ _ => rfl)) (pv 4)) (nomark _)) (pw_and1 (pt_cmpR op_lt (pe_ix (ix_listK K) (pv 2) (pv 3) (fun _ _ => rfl)) (pv 1) (nomark _))))))) (fun _ _ _ _ _ => pe_int)) (pe_lst pa_nil) (nomark _)) (pss_one (ps_ret pe_bl)) pss_nil)
    (pss_one (ps_expr (pe_bm PySem.F.plainAttrs_list PySem.F.slot_list_append PySem.F.type_list_append mt_append (pv 3) (pa_cons (pe_tup (pa_cons (pe_ix ix_list (pv 2) (pv 4) (fun _ _ => rfl)) (pa_cons (pe_op op_add (pe_ix ix_list (pv 2) (pv 4) (fun _ _ => rfl)) (pv 5)) pa_nil))) pa_nil))))))))
    (pss_one (ps_ret pe_bl))))), ?_⟩
  refine ⟨_, rfl, b, _, rfl, .inl (SqL.of hb), _, rfl, c, _, rfl, .inl (SqL.of hc), rfl, _, rfl, ?_⟩
  by_cases hpl : ps.length = rs.length
  case neg =>
    refine iteNT (fun z => hpl (by have := V.int.inj z; rw [hlp, hlz] at this; omega)) ?_
    exact q false H (Same.refl _) ⟨fun z => (nomatch z), fun z => absurd z.1 hpl⟩
  refine iteNS (by rw [hlp, hlz, hpl]) ?_
  refine ⟨_, rfl, a, _, rfl, .inl (SqL.of ha), fun l hl => ?_⟩
  have s0 := same_new hl (.lst lv)
  refine ⟨_, rfl, c, _, rfl, .inl (SqL.of (s0 _ _ hc)), _, rfl, by omega, by omega, ?_⟩
  have hnn : ((zs.length : Nat) : Int).toNat = rs.length := by rw [Int.toNat_natCast, hlz]
  rw [hnn]
  have hid : IsDs (hide l (upd H l (.lst lv))) (ly.map rdt) lv := hlv.same fun b o hb => by rw [hide_ne (ne_of_none hb hl), upd_ne (ne_of_none hb hl)]; exact hb
  have hzz : (rs.zip ps).length = rs.length := by rw [List.length_zip]; omega
  refine for_range (fun i σ H' => ∃ (lv2 : List V) (x4 x5 x6 : Option V), σ = [some (.ref c), some (.ref a), some (.ref b), some (.ref l), x4, x5, x6] ∧ Same H H' ∧ H' l = some (.lst lv2) ∧ IsDs (hide l H') ((ly ++ ((rs.zip ps).take i).map stOf).map rdt) lv2 ∧ (∀ q ∈ (rs.zip ps).take i, 0 ≤ q.2 ∧ q.2 % q.1.2 = 0) ∧ (ly ++ ((rs.zip ps).take i).map stOf).Pairwise Dj)
    ⟨lv, _, _, _, rfl, s0, upd_same, by show IsDs _ ((ly ++ []).map rdt) lv; rw [List.append_nil]; exact hid, fun q hq => (nomatch hq), by show (ly ++ []).Pairwise Dj; rw [List.append_nil]; exact hL.1.2.imp fun h => Or.inl h⟩ (fun i σ H' hi ⟨lv2, x4, x5, x6, es, e, hl', hD, hok, hdj⟩ => ?_) (fun σ H' ⟨lv2, x4, x5, x6, es, e, hl', hD, hok, hdj⟩ => ?_)
  · subst es
    have hi : i < rs.length := hi
    have hip : i < ps.length := by omega
    obtain ⟨r, pr, er, epr, hpr⟩ := rooms_at hzs (List.getElem?_eq_getElem (show i < zs.length by omega))
    have ep : ps[i]? = some ps[i] := List.getElem?_eq_getElem hip
    generalize ps[i] = p at ep
    have eq : (rs.zip ps)[i]? = some (r, p) := (List.getElem?_zip_eq_some (z := (r, p))).mpr ⟨er, ep⟩
    have hmem : (r, p) ∈ rs.zip ps := List.mem_of_getElem? eq
    obtain ⟨g1, g2, g3, g4⟩ := hR.2 r (List.mem_of_getElem? er)
    have hat : atI (ps.map V.int) (0 + (i : Int)) = some (.int p) := by rw [Int.zero_add]; exact atI_nat (by rw [List.getElem?_map, ep]; rfl)
    have haz : atI zs (0 + (i : Int)) = some (.ref pr) := by rw [Int.zero_add]; exact atI_nat (by rw [List.getElem?_eq_getElem (show i < zs.length by omega)]; exact congrArg some epr)
    refine ⟨_, rfl, _, rfl, c, _, _, _, rfl, rfl, SqL.of (e _ _ hc), haz, pr, _, rfl, SqT.of (e _ _ hpr), rfl, _, _, rfl, _, _, rfl, rfl, ?_⟩
    have no : ∀ H2, Same H H2 → ¬ IsP rs ly ps → Q (.bl false) H2 := fun H2 e2 h => q false H2 e2 ⟨fun z => (nomatch z), fun z => absurd z h⟩
    refine ⟨_, rfl, _, rfl, b, _, _, _, rfl, rfl, SqL.of (e _ _ hb), hat, _, _, rfl, rfl, _, rfl, ?_⟩
    by_cases c1 : p < 0
    · exact iteDT c1 (iteT (no _ e fun z => by have := (z.2.1 _ hmem).1; dsimp only at this; omega))
    refine iteND c1 ⟨_, rfl, _, rfl, b, _, _, _, rfl, rfl, SqL.of (e _ _ hb), hat, _, rfl, _, _, rfl, rfl, (by show 0 < r.2; omega), rfl, _, rfl, ?_⟩
    by_cases c2 : p % r.2 = 0
    case neg => exact iteNT (fun z => c2 (V.int.inj z)) (no _ e fun z => c2 (z.2.1 _ hmem).2)
    refine iteNS (congrArg V.int c2) ?_
    have hll2 : lv2.length = ly.length + i := by rw [hD.len, List.length_map, List.length_append, List.length_map, List.length_take]; omega
    generalize hus : ly ++ ((rs.zip ps).take i).map stOf = us at hD hdj
    have hlus : lv2.length = us.length := by rw [hD.len, List.length_map]
    refine ⟨_, rfl, l, rfl, ⟨_, SqL.of hl'⟩, ?_⟩
    refine comp_list (xs := lv2) (fun j acc H2 => Same H' H2 ∧ acc.length ≤ j ∧ (acc = [] → ∀ s ∈ us.take j, p + r.1 ≤ s.1 ∨ s.2 ≤ p) ∧ (acc ≠ [] → ∃ s ∈ us, s.1 < p + r.1 ∧ p < s.2)) (by omega) ⟨Same.refl _, Nat.le_refl _, fun _ s hs => (nomatch hs), fun z => absurd rfl z⟩ (fun i acc H2 hi ⟨ee, ea, _⟩ => ⟨SqL.of (ee _ _ hl'), ea⟩) (fun j x acc H2 hx ⟨ee, ea, ef, eg⟩ => ?_) (fun acc H2 ⟨ee, ea, ef, eg⟩ lc hlc => ?_)
    · obtain ⟨st, pst, est, rfl, hpst⟩ := rooms_at hD hx
      have hpst2 := ee _ _ (hide_some hpst).2
      refine ⟨pst, _, rfl, SqT.of hpst2, rfl, _, _, rfl, _, _, rfl, rfl, ?_⟩
      refine ⟨_, rfl, _, rfl, _, rfl, b, _, _, _, rfl, rfl, SqL.of (ee _ _ (e _ _ hb)), hat, _, rfl, _, _, rfl, rfl, _, _, rfl, rfl, _, rfl, ?_⟩
      have stp : (p + r.1 ≤ st.1 ∨ st.2 ≤ p) → (acc = [] → ∀ s ∈ us.take (j + 1), p + r.1 ≤ s.1 ∨ s.2 ≤ p) := fun h2 h3 s hs => by
        rw [take_snoc est] at hs
        rcases List.mem_append.mp hs with hs | hs
        · exact ef h3 s hs
        · rw [List.mem_singleton.mp hs]; exact h2
      by_cases c1 : st.1 < p + r.1
      · refine iteDT c1 ⟨_, rfl, _, rfl, b, _, _, _, rfl, rfl, SqL.of (ee _ _ (e _ _ hb)), hat, _, rfl, _, _, rfl, rfl, _, rfl, ?_⟩
        by_cases c2 : p < st.2
        · exact iteDT c2 ⟨ee, by rw [List.length_append]; exact Nat.succ_le_succ ea, fun z => absurd z (by simp), fun _ => ⟨st, List.mem_of_getElem? est, c1, c2⟩⟩
        · exact iteND c2 ⟨ee, Nat.le_succ_of_le ea, stp (.inr (by omega)), eg⟩
      · exact iteND c1 (iteF ⟨ee, Nat.le_succ_of_le ea, stp (.inl (by omega)), eg⟩)
    have sc := same_new hlc (.lst acc)
    refine ⟨lists3 0 (by decide), fun l0 hl0 => ?_⟩
    have s1 := same_new hl0 (.lst [])
    refine ⟨lc, l0, _, rfl, rfl, SqL.of (s1 _ _ upd_same), SqL.of upd_same, _, rfl, ?_⟩
    have e2 := (ee.trans sc).trans s1
    cases acc with
    | cons y ys =>
      refine iteT (no _ (e.trans e2) fun z => ?_)
      obtain ⟨st, m1, m2, m3⟩ := eg (by simp)
      have hz := dj_perm List.perm_append_comm z.2.2
      rw [← hus] at m1
      have hin : (rs.zip ps).map stOf = ((rs.zip ps).take i).map stOf ++ stOf (r, p) :: ((rs.zip ps).drop (i + 1)).map stOf := by
        have hi2 : i < (rs.zip ps).length := by omega
        have e9 := List.getElem?_eq_getElem hi2
        rw [eq] at e9
        have e10 : (rs.zip ps) = (rs.zip ps).take i ++ (rs.zip ps)[i] :: (rs.zip ps).drop (i + 1) := by rw [← List.drop_eq_getElem_cons hi2, List.take_append_drop]
        rw [← Option.some.inj e9] at e10
        have e11 := congrArg (List.map stOf) e10
        rw [List.map_append, List.map_cons] at e11
        exact e11
      rw [hin, ← List.append_assoc] at hz
      have := not_dj m1 List.mem_cons_self hz
      rcases this with h | h
      · have h : st.2 ≤ p := h
        omega
      · have h : p + r.1 ≤ st.1 := h
        omega
    | nil =>
      refine iteF ?_
      have hl2 := e2 _ _ hl'
      have eb := (e.trans e2) _ _ hb
      refine ⟨_, rfl, .inl ⟨rfl, _, SqL.of hl2⟩, _, rfl, _, rfl, b, _, _, _, rfl, rfl, SqL.of eb, hat, _, rfl, _, rfl, b, _, _, _, rfl, rfl, SqL.of eb, hat, _, rfl, _, _, rfl, rfl, lists3 2 (by decide), fun t ht => ?_⟩
      have st := same_new ht (.tup [.int p, .int (p + r.1)])
      have tl : t ≠ l := fun z => by rw [z, hl2] at ht; cases ht
      refine ⟨l, _, _, rfl, rfl, st _ _ hl2, small1000 (by omega), ?_⟩
      have hnew : ly ++ ((rs.zip ps).take (i + 1)).map stOf = us ++ [(p, p + r.1)] := by
        rw [take_snoc eq, List.map_append, ← List.append_assoc, hus]
        rfl
      refine ⟨lv2 ++ [.ref t], _, _, _, rfl, same_set ((e.trans e2).trans st) hl _, upd_same, ?_, fun q hq => ?_, ?_⟩
      · rw [hnew, List.map_append]
        exact IsDs.snoc (d := rdt (p, p + r.1)) ⟨t, _, rfl, by rw [hide_ne tl, upd_ne tl]; exact upd_same, _, _, rfl, rfl, _, _, rfl, rfl, rfl⟩ ((hD.same (SameX.of (e2.trans st))).same (SameX.upd _ _ _))
      · rw [take_snoc eq] at hq
        rcases List.mem_append.mp hq with hq | hq
        · exact hok q hq
        · rw [List.mem_singleton.mp hq]
          exact ⟨by show 0 ≤ p; omega, c2⟩
      · rw [hnew]
        refine List.pairwise_append.mpr ⟨hdj, List.pairwise_singleton _ _, fun s hs u hu => ?_⟩
        rw [List.mem_singleton.mp hu]
        have := ef rfl s (by rw [hlus, List.take_length]; exact hs)
        exact this.symm
  · subst es
    have hf : (rs.zip ps).take rs.length = rs.zip ps := List.take_of_length_le (by omega)
    rw [hf] at hok hdj
    exact q true _ e ⟨fun _ => ⟨hpl, hok, dj_perm List.perm_append_comm hdj⟩, fun _ => rfl⟩
end

theorem samex_set {p l : Addr} {H H' : Hp} (e : SameX p H H') (hl : H l = none) (o : HO) : SameX p H (upd H' l o) := by
  intro b u hb
  obtain ⟨n2, hb⟩ := hide_some hb
  have n1 : b ≠ l := ne_of_none hb hl
  rw [hide_ne n2, upd_ne n1]
  exact e.get n2 hb
theorem DeckAt.set {p l : Addr} {H : Hp} (h : DeckAt p H) (n : l ≠ p) (o : HO) : DeckAt p (upd H l o) := by
  obtain ⟨ns, q1, q2⟩ := h
  exact ⟨ns, by rw [upd_ne (fun z => n z.symm)]; exact q1, q2⟩
def natV (l : List Nat) : List V := l.map fun (k : Nat) => V.int (k : Int)
theorem natV_range (n : Nat) : rangeV 0 (n : Int) = natV (List.range n) := by
  unfold rangeV natV
  have e : ((n : Int) - 0).toNat = n := by omega
  rw [e]
  exact List.map_congr_left fun k _ => by rw [Int.zero_add]
theorem seqIx {i : Int} {n : Nat} (h0 : 0 ≤ i) (h1 : i < n) : seqIndex? i n = some i.toNat := seqIndex_of h0 h1
theorem natV_erase : ∀ (l : List Nat) (i : Nat), (natV l).eraseIdx i = natV (l.eraseIdx i)
  | [], _ => rfl
  | _ :: _, 0 => rfl
  | a :: l, i + 1 => by show V.int (a : Int) :: (natV l).eraseIdx i = V.int (a : Int) :: natV (l.eraseIdx i); rw [natV_erase l i]
def BdP (ps : List Int) : Prop := ∀ x ∈ ps, 0 ≤ x ∧ x ≤ 200000
theorem BdP.set {ps : List Int} (h : BdP ps) {k : Nat} {v : Int} (h0 : 0 ≤ v) (h1 : v ≤ 200000) : BdP (ps.set k v) := fun x hx => by
  rcases List.mem_or_eq_of_mem_set hx with hx | hx
  · exact h x hx
  · rw [hx]; exact ⟨h0, h1⟩
def spLD : Sp := fun vs H Q _ => ∃ (p c a : Addr) (zs lv : List V) (rs ly : List (Int × Int)), vs = [.ref p, .ref c, .ref a] ∧ DeckAt p H ∧ c ≠ p ∧ a ≠ p ∧ H c = some (.lst zs) ∧ IsDs (hide p H) (rs.map rdt) zs ∧ H a = some (.lst lv) ∧ IsDs (hide p H) (ly.map rdt) lv ∧ RmOk rs ∧ LyOk ly ∧
  ∀ (ps : List Int) (l : Addr) (H' : Hp), SameX p H H' → H l = none → l ≠ p → H' l = some (.lst (ps.map V.int)) → ps.length = rs.length → BdP ps → DeckAt p H' → Q (.ref l) H'
section
variable {P : Program} {w : World} {K : PySem.W.Frag} {mg : Str → Option Value} {base : Heap} {f fNX fUP : Addr} {fd dNX dUP : FuncData}
set_option maxHeartbeats 16000000 in
theorem ok_ld (F : Fun K "_law_laid" "_law_laid" s_law_laid f fd) (xNX : Fx K mg "_law_next" s_law_next ["deck"] fNX dNX) (xUP : Fx K mg "_law_up" s_law_up ["number", "m"] fUP dUP) (GNX : FnOk P w K mg base CX0 1 fNX dNX ["deck"] spNX) (GUP : FnOk P w K mg base CX0 1 fUP dUP ["number", "m"] spRU) (m_range : mg "range" = none) (m_list : mg "list" = none) (m_len : mg "len" = none) : FnOk P w K mg base CX0 2 f fd ["deck", "sizes", "lying"] spLD := by
  refine F.ok sc_law_laid (fun vs H Q E h => ?_) (fun cdv A outer s H vs Q E hr h => ?_)
  · obtain ⟨p, c, a, zs, lv, rs, ly, rfl, _⟩ := h
    rfl
  obtain ⟨p, c, a, zs, lv, rs, ly, rfl, hP, hcp, hap, hc, hzs, ha, hlv, hR, hL, q⟩ := h
  have hu := hr.units0
  have h6 := hR.1
  have hl20 := hL.2.1
  have hlz : zs.length = rs.length := by rw [hzs.len, List.length_map]
  have hll : lv.length = ly.length := by rw [hlv.len, List.length_map]
  have bNX := xNX.b
  have kNX := xNX.k
  have mNX := xNX.m
  have bUP := xUP.b
  have kUP := xUP.k
  have mUP := xUP.m
  refine ⟨_, (pss_cons (ps_set (i := 3) sc_law_laid.nd rfl (Or.inl rfl) (pe_listRange1 rfl rfl m_list rfl m_range (pa_cons (pe_callB call_len_seq rfl m_len PySem.boot_len (pa_cons (pv 1) pa_nil)) pa_nil)))
    (pss_cons (ps_set (i := 4) sc_law_laid.nd rfl (Or.inl rfl) (pe_op op_rep (pe_lst (pa_cons pe_int pa_nil)) (pe_callB call_len_seq rfl m_len PySem.boot_len (pa_cons (pv 1) pa_nil))))
    (pss_cons (ps_set (i := 5) sc_law_laid.nd rfl (Or.inl rfl) pe_int)
    (pss_cons (ps_while PassesOwn.never (pt_cmpR (op_neNil hu) (pv 3) (pe_lst pa_nil) (nomark _)) (pss_cons (ps_set (i := 6) sc_law_laid.nd rfl (Or.inl rfl) (pe_bm PySem.F.plainAttrs_list PySem.F.slot_list_pop PySem.F.type_list_pop mt_popAt (pv 3) (pa_cons (pe_op op_mod (pe_call GNX hr rfl mNX kNX bNX .nil pass0 (pa_cons (pv 0) pa_nil)) (pe_callB call_len_seq rfl m_len PySem.boot_len (pa_cons (pv 3) pa_nil))) pa_nil)))
    (pss_cons (ps_asg (pe_ix ix_list (pv 1) (pv 6) (fun _ _ => rfl)) (pg_tup rfl (pgs_cons (pg_name (i := 7) sc_law_laid.nd rfl (Or.inl rfl)) (pgs_cons (pg_name (i := 8) sc_law_laid.nd rfl (Or.inl rfl)) pgs_nil))))
    (pss_cons (ps_asg (pe_call GUP hr rfl mUP kUP bUP .nil pass0 (pa_cons (pe_op op_add (pv 5) (pe_op op_mulB (pe_op op_fdivB (pe_op op_mod (pe_call GNX hr rfl mNX kNX bNX .nil pass0 (pa_cons (pv 0) pa_nil)) pe_int) pe_int) (pv 8))) (pa_cons (pv 8) pa_nil))) (pg_sub (pv 4) (pv 6) set_list))
    (pss_cons (ps_for PassesOwn.never rfl (pi_list (pv 2)) (pg_tup rfl (pgs_cons (pg_name (i := 9) sc_law_laid.nd rfl (Or.inl rfl)) (pgs_cons (pg_name (i := 10) sc_law_laid.nd rfl (Or.inl rfl)) pgs_nil))) (pss_one (ps_if (PW.pt (pw_and (pt_cmpR op_lt (pv 9) (pe_op op_add (pe_ix ix_list (pv 4) (pv 6) (fun _ _ => rfl)) (pv 7)) (nomark _)) (pw_and1 (pt_cmpR op_lt (pe_ix ix_list (pv 4) (pv 6) (fun _ _ => rfl)) (pv 10) (nomark _))))) (pss_one (ps_asg (pe_call GUP hr rfl mUP kUP bUP .nil pass0 (pa_cons (pv 10) (pa_cons (pv 8) pa_nil))) (pg_sub (pv 4) (pv 6) set_list))) pss_nil)))
    (pss_one (ps_set (i := 5) sc_law_laid.nd rfl (Or.inl rfl) (pe_op op_add (pe_ix ix_list (pv 4) (pv 6) (fun _ _ => rfl)) (pv 7)))))))))
    (pss_one (ps_ret (pv 4))))))), ?_⟩
  refine ⟨_, rfl, c, _, rfl, .inl (SqL.of hc), _, rfl, by omega, by omega, fun lA hlA => ?_⟩
  have s0 := same_new hlA (.lst (rangeV 0 (zs.length : Int)))
  refine ⟨lists3 1 (by decide), fun l0 hl0 => ?_⟩
  have s1 := same_new hl0 (.lst [.int 0])
  refine ⟨_, rfl, c, _, rfl, .inl (SqL.of (s1 _ _ (s0 _ _ hc))), l0, _, _, rfl, rfl, upd_same, by omega, by omega, lists3 _ (by rw [Int.toNat_natCast]; show 1 * zs.length ≤ 1000; omega), fun lP hlP => ?_⟩
  have s2 := same_new hlP (.lst (List.replicate ((zs.length : Nat) : Int).toNat [V.int 0]).flatten)
  have e2 := (s0.trans s1).trans s2
  have gA := s2 _ _ (s1 _ _ (upd_same (H := H) (a := lA) (o := .lst (rangeV 0 (zs.length : Int)))))
  have gP : (upd (upd (upd H lA (.lst (rangeV 0 (zs.length : Int)))) l0 (.lst [.int 0])) lP (.lst (List.replicate ((zs.length : Nat) : Int).toNat [V.int 0]).flatten)) lP = some (.lst (List.replicate ((zs.length : Nat) : Int).toNat [V.int 0]).flatten) := upd_same
  have hlPH : H lP = none := by
    cases z : H lP with
    | none => rfl
    | some o => rw [(s0.trans s1) _ _ z] at hlP; cases hlP
  have hAP : lA ≠ lP := fun z => by rw [← z, s1 _ _ upd_same] at hlP; cases hlP
  have hAp : lA ≠ p := hP.ne hlA
  have hPp : lP ≠ p := hP.ne hlPH
  generalize upd (upd (upd H lA (.lst (rangeV 0 (zs.length : Int)))) l0 (.lst [.int 0])) lP (.lst (List.replicate ((zs.length : Nat) : Int).toNat [V.int 0]).flatten) = H1 at e2 gA gP
  rw [Int.toNat_natCast, rep_zero] at gP
  rw [natV_range] at gA
  refine ⟨fun m σ H' => ∃ (lf : List Nat) (ps : List Int) (en : Int) (x6 x7 x8 x9 x10 : Option V), σ = [some (.ref p), some (.ref c), some (.ref a), some (.ref lA), some (.ref lP), some (.int en), x6, x7, x8, x9, x10] ∧ SameX p H H' ∧ DeckAt p H' ∧ H' lA = some (.lst (natV lf)) ∧ H' lP = some (.lst (ps.map V.int)) ∧ ps.length = rs.length ∧ BdP ps ∧ (∀ k ∈ lf, k < rs.length) ∧ lf.length ≤ 6 ∧ 0 ≤ en ∧ en ≤ 200000 - 2100 * (lf.length : Int) ∧ m = lf.length,
    ⟨_, List.range zs.length, List.replicate zs.length 0, 0, _, _, _, _, _, rfl, SameX.of e2, hP.same e2, gA, gP, by rw [List.length_replicate, hlz], fun x hx => by rw [List.eq_of_mem_replicate hx]; decide, fun k hk => by rw [← hlz]; exact List.mem_range.mp hk, by rw [List.length_range]; omega, Int.le_refl _, by rw [List.length_range]; omega, rfl⟩, ?_⟩
  rintro m σ H' ⟨lf, ps, en, x6, x7, x8, x9, x10, rfl, eS, hP', hA', hP1, hpl, hbd, hlf, hlf6, hen0, hen1, hm⟩
  refine ⟨_, rfl, lists3 0 (by decide), fun l1 hl1 => ?_⟩
  have s3 := same_new hl1 (.lst [])
  refine ⟨lA, l1, _, rfl, rfl, SqL.of (s3 _ _ hA'), SqL.of upd_same, _, rfl, ?_⟩
  have eS3 := eS.trans (SameX.of s3)
  have hP3 := hP'.same s3
  have hA3 := s3 _ _ hA'
  have hP13 := s3 _ _ hP1
  generalize upd H' l1 (.lst []) = H3 at eS3 hP3 hA3 hP13
  clear eS hP' hA' hP1 s3 hl1
  by_cases hne : lf = []
  · subst hne
    exact iteF ⟨_, rfl, q ps lP _ eS3 hlPH hPp hP13 hpl hbd hP3⟩
  have hemp : (!(natV lf).isEmpty) = true := by
    cases lf with
    | nil => exact absurd rfl hne
    | cons _ _ => rfl
  have hpos : 0 < lf.length := List.length_pos_iff.mpr hne
  have hnl : (natV lf).length = lf.length := List.length_map _
  rw [hemp]
  refine iteT ⟨fun σ' H2 => ∃ m', m' < m ∧ ∃ (lf : List Nat) (ps : List Int) (en : Int) (x6 x7 x8 x9 x10 : Option V), σ' = [some (.ref p), some (.ref c), some (.ref a), some (.ref lA), some (.ref lP), some (.int en), x6, x7, x8, x9, x10] ∧ SameX p H H2 ∧ DeckAt p H2 ∧ H2 lA = some (.lst (natV lf)) ∧ H2 lP = some (.lst (ps.map V.int)) ∧ ps.length = rs.length ∧ BdP ps ∧ (∀ k ∈ lf, k < rs.length) ∧ lf.length ≤ 6 ∧ 0 ≤ en ∧ en ≤ 200000 - 2100 * (lf.length : Int) ∧ m' = lf.length, fun σ' H2 h => h, ?_⟩
  refine ⟨_, rfl, .inl ⟨rfl, _, SqL.of hA3⟩, _, rfl, p, rfl, hP3, fun a1 H4 a10 a11 e4 hP4 => ⟨_, rfl, lA, _, rfl, .inl (SqL.of (e4.get hAp hA3)), _, _, rfl, rfl, (by show 0 < (((natV lf).length : Nat) : Int); omega), ?_⟩⟩
  have i0 : 0 ≤ a1 % (((natV lf).length : Nat) : Int) := Int.emod_nonneg _ (by omega)
  have i1 : a1 % (((natV lf).length : Nat) : Int) < (((natV lf).length : Nat) : Int) := Int.emod_lt_of_pos _ (by omega)
  generalize hixe : a1 % (((natV lf).length : Nat) : Int) = ix at i0 i1
  have hix : ix.toNat < lf.length := by omega
  have hA4 := e4.get hAp hA3
  have hP14 := e4.get hPp hP13
  have eS4 := eS3.trans e4
  have hk := hlf _ (List.getElem_mem hix)
  have hy : (natV lf)[ix.toNat]? = some (.int ((lf[ix.toNat] : Nat) : Int)) := by unfold natV; rw [List.getElem?_map, List.getElem?_eq_getElem hix]; rfl
  generalize lf[ix.toNat] = k at hk hy
  refine ⟨lA, _, ix, _, _, rfl, congrArg (fun z => [V.int z]) hixe, hA4, by omega, by omega, seqIx i0 i1, hy, ?_⟩
  have her : (natV lf).eraseIdx ix.toNat = natV (lf.eraseIdx ix.toNat) := natV_erase lf _
  have hel : (lf.eraseIdx ix.toNat).length = lf.length - 1 := List.length_eraseIdx_of_lt hix
  have hem : ∀ j ∈ lf.eraseIdx ix.toNat, j < rs.length := fun j hj => hlf j (List.mem_of_mem_eraseIdx hj)
  have gA5 : (upd H4 lA (.lst ((natV lf).eraseIdx ix.toNat))) lA = some (.lst (natV (lf.eraseIdx ix.toNat))) := by rw [upd_same, her]
  have gP5 : (upd H4 lA (.lst ((natV lf).eraseIdx ix.toNat))) lP = some (.lst (ps.map V.int)) := by rw [upd_ne (fun z => hAP z.symm)]; exact hP14
  have eS5 := samex_set eS4 hlA (.lst ((natV lf).eraseIdx ix.toNat))
  have hP5 := hP4.set hAp (.lst ((natV lf).eraseIdx ix.toNat))
  generalize upd H4 lA (.lst ((natV lf).eraseIdx ix.toNat)) = H5 at gA5 gP5 eS5 hP5
  generalize hlf2 : lf.eraseIdx ix.toNat = lf2 at gA5 hel hem
  clear eS3 hP3 hA3 hP13 eS4 hP4 hA4 hP14 e4
  obtain ⟨r, pr, er, epr, hpr⟩ := rooms_at (hzs.same eS5) (List.getElem?_eq_getElem (show k < zs.length by omega))
  obtain ⟨g1, g2, g3, g4⟩ := hR.2 r (List.mem_of_getElem? er)
  have hprp := (hide_some hpr).1
  have haz : atI zs ((k : Nat) : Int) = some (.ref pr) := atI_nat (by rw [List.getElem?_eq_getElem (show k < zs.length by omega)]; exact congrArg some epr)
  refine ⟨_, rfl, _, rfl, c, _, _, _, rfl, rfl, SqL.of (eS5.get hcp hc), haz, pr, _, rfl, SqT.of (hide_some hpr).2, rfl, _, _, rfl, _, _, rfl, rfl, ?_⟩
  refine ⟨_, rfl, _, rfl, p, rfl, hP5, fun a2 H6 a20 a21 e6 hP6 => ⟨_, _, rfl, rfl, (by show (0 : Int) < 3; decide), _, _, rfl, rfl, ⟨by decide, by decide⟩, _, rfl, _, _, rfl, rfl, ?_, _, _, rfl, rfl, _, rfl, _, _, rfl, ?_, ?_, by omega, by omega, ?_⟩⟩
  · have j0 : (0 : Int) ≤ a2 % 3 := Int.emod_nonneg _ (by decide)
    have j1 : a2 % 3 < 3 := Int.emod_lt_of_pos _ (by decide)
    constructor <;> omega
  all_goals
    have j0 : (0 : Int) ≤ a2 % 3 := Int.emod_nonneg _ (by decide)
    have j1 : a2 % 3 < 3 := Int.emod_lt_of_pos _ (by decide)
    have j2 : 0 ≤ a2 % 3 / 2 * r.2 := Int.mul_nonneg (by omega) (by omega)
    have j3 : a2 % 3 / 2 * r.2 ≤ 1 * r.2 := Int.mul_le_mul_of_nonneg_right (by omega) (by omega)
  · omega
  · omega
  have up1 := up_bounds (n := en + a2 % 3 / 2 * r.2) (m := r.2) (by omega)
  generalize up (en + a2 % 3 / 2 * r.2) r.2 = pl at up1
  have hkp : k < (ps.map V.int).length := by rw [List.length_map]; omega
  have gA6 := e6.get hAp gA5
  have gP6 := e6.get hPp gP5
  have eS6 := eS5.trans e6
  refine ⟨_, rfl, _, rfl, lP, _, _, k, rfl, rfl, gP6, ixN_nat hkp, ?_⟩
  have gP7 : (upd H6 lP (.lst ((ps.map V.int).set k (.int pl)))) lP = some (.lst ((ps.set k pl).map V.int)) := by rw [upd_same, map_set_int]
  have gA7 : (upd H6 lP (.lst ((ps.map V.int).set k (.int pl)))) lA = some (.lst (natV lf2)) := by rw [upd_ne hAP]; exact gA6
  have eS7 := samex_set eS6 hlPH (.lst ((ps.map V.int).set k (.int pl)))
  have hP7 := hP6.set hPp (.lst ((ps.map V.int).set k (.int pl)))
  generalize upd H6 lP (.lst ((ps.map V.int).set k (.int pl))) = H7 at gP7 gA7 eS7 hP7
  clear eS5 hP5 gA5 gP5 gA6 gP6 eS6 hP6 e6
  have hlv7 := hlv.same eS7
  have hW : pl ≤ 200000 - 2100 * (lf.length : Int) + 16 := by omega
  refine ⟨_, rfl, a, rfl, ⟨_, SqL.of (eS7.get hap ha)⟩, ?_⟩
  refine for_list (xs := lv) (fun i σ H' => ∃ (ps : List Int) (v : Int) (x9 x10 : Option V), σ = [some (.ref p), some (.ref c), some (.ref a), some (.ref lA), some (.ref lP), some (.int en), some (.int ((k : Nat) : Int)), some (.int r.1), some (.int r.2), x9, x10] ∧ SameX p H H' ∧ DeckAt p H' ∧ H' lA = some (.lst (natV lf2)) ∧ H' lP = some (.lst (ps.map V.int)) ∧ ps.length = rs.length ∧ BdP ps ∧ ps[k]? = some v ∧ 0 ≤ v ∧ v + 2000 ≤ 200000 - 2100 * (lf2.length : Int))
    ⟨ps.set k pl, pl, _, _, rfl, eS7, hP7, gA7, gP7, by rw [List.length_set]; exact hpl, hbd.set (by omega) (by omega), List.getElem?_set_self (by omega), by omega, by omega⟩
    (fun i σ H' hi ⟨ps, v, x9, x10, es, eS, hP', hA', hP1, hpl, hbd, hv, hv0, hv1⟩ => SqL.of (eS.get hap ha)) (fun i x σ H' hx ⟨ps, v, x9, x10, es, eS, hP', hA', hP1, hpl, hbd, hv, hv0, hv1⟩ => ?_) (fun σ H' ⟨ps, v, x9, x10, es, eS, hP', hA', hP1, hpl, hbd, hv, hv0, hv1⟩ => ?_)
  · subst es
    obtain ⟨st, pst, est, rfl, hpst⟩ := rooms_at (hlv.same eS) hx
    have hst := hL.nn (List.mem_of_getElem? est)
    have hat : atI (ps.map V.int) ((k : Nat) : Int) = some (.int v) := atI_nat (by rw [List.getElem?_map, hv]; rfl)
    refine ⟨pst, _, rfl, SqT.of (hide_some hpst).2, rfl, _, _, rfl, _, _, rfl, rfl, ?_⟩
    refine ⟨_, rfl, _, rfl, _, rfl, lP, _, _, _, rfl, rfl, SqL.of hP1, hat, _, rfl, _, _, rfl, rfl, _, _, rfl, rfl, _, rfl, ?_⟩
    by_cases c1 : st.1 < v + r.1
    · refine iteDT c1 ⟨_, rfl, _, rfl, lP, _, _, _, rfl, rfl, SqL.of hP1, hat, _, rfl, _, _, rfl, rfl, _, rfl, ?_⟩
      by_cases c2 : v < st.2
      · refine iteDT c2 ⟨_, rfl, _, rfl, _, _, rfl, by omega, by omega, by omega, by omega, _, rfl, _, rfl, lP, _, _, k, rfl, rfl, hP1, ixN_nat (by rw [List.length_map]; omega), ?_⟩
        have up2 := up_bounds (n := st.2) (m := r.2) (by omega)
        exact ⟨ps.set k (up st.2 r.2), up st.2 r.2, _, _, rfl, samex_set eS hlPH _, hP'.set hPp _, by rw [upd_ne hAP]; exact hA', by rw [upd_same, map_set_int], by rw [List.length_set]; exact hpl, hbd.set (by omega) (by omega), List.getElem?_set_self (by omega), by omega, by omega⟩
      · exact iteND c2 ⟨ps, v, _, _, rfl, eS, hP', hA', hP1, hpl, hbd, hv, hv0, hv1⟩
    · exact iteND c1 (iteF ⟨ps, v, _, _, rfl, eS, hP', hA', hP1, hpl, hbd, hv, hv0, hv1⟩)
  · subst es
    have hat : atI (ps.map V.int) ((k : Nat) : Int) = some (.int v) := atI_nat (by rw [List.getElem?_map, hv]; rfl)
    exact ⟨_, rfl, _, rfl, lP, _, _, _, rfl, rfl, SqL.of hP1, hat, _, rfl, _, _, rfl, rfl, lf2.length, by omega, lf2, ps, v + r.1, _, _, _, _, _, rfl, eS, hP', hA', hP1, hpl, hbd, hem, by omega, by omega, by omega, rfl⟩
end

theorem cut_mem {xs : List V} {a b : Option Int} {x : V} (h : x ∈ cutV xs a b) : x ∈ xs := by
  unfold cutV at h
  exact List.mem_of_mem_drop (List.mem_of_mem_take h)
theorem cut_len (xs : List V) (a b : Option Int) : (cutV xs a b).length ≤ xs.length := by
  unfold cutV
  rw [List.length_take, List.length_drop]
  omega
theorem ixN_int {n : Nat} {z : Int} (h0 : 0 ≤ z) (h1 : z < n) : ixN n z = some z.toNat := by
  have := ixN_nat (n := n) (k := z.toNat) (by omega)
  rwa [Int.toNat_of_nonneg h0] at this
theorem ints_at {ps : List Int} {z : Int} (h0 : 0 ≤ z) (h1 : z < ps.length) : ∃ v, atI (ps.map V.int) z = some (.int v) := by
  obtain ⟨v, hv, hm⟩ := atI_in (xs := ps.map V.int) h0 (by rw [List.length_map]; exact h1)
  obtain ⟨n, _, rfl⟩ := List.mem_map.mp hm
  exact ⟨n, hv⟩
theorem size_at {H : Hp} {rs : List (Int × Int)} {zs : List V} {z : Int} (h : IsDs H (rs.map rdt) zs) (h0 : 0 ≤ z) (h1 : z < rs.length) : ∃ (r : Int × Int) (p : Addr), atI zs z = some (.ref p) ∧ H p = some (.tup [.int r.1, .int r.2]) := by
  obtain ⟨v, hv, hm⟩ := atI_in (xs := zs) h0 (by rw [h.len, List.length_map]; exact h1)
  obtain ⟨i, hi⟩ := List.getElem?_of_mem hm
  obtain ⟨r, p, _, rfl, hp⟩ := rooms_at h hi
  exact ⟨r, p, hv, hp⟩
def AllI (xs : List V) : Prop := ∃ ns : List Int, xs = ns.map V.int
theorem AllI.app {xs ys : List V} (h : AllI xs) (k : AllI ys) : AllI (xs ++ ys) := by
  obtain ⟨a, rfl⟩ := h
  obtain ⟨b, rfl⟩ := k
  exact ⟨a ++ b, List.map_append.symm⟩
theorem AllI.cut {xs : List V} (h : AllI xs) (a b : Option Int) : AllI (cutV xs a b) := by
  obtain ⟨n, rfl⟩ := h
  unfold cutV
  exact ⟨_, by rw [← List.map_drop, ← List.map_take]⟩
theorem AllI.set {xs : List V} (h : AllI xs) (k : Nat) (v : Int) : AllI (xs.set k (.int v)) := by
  obtain ⟨n, rfl⟩ := h
  exact ⟨n.set k v, map_set_int _ _ _⟩
def LsOk (H : Hp) (vs : List V) : Prop := ∀ x ∈ vs, ∃ (b : Addr) (xs : List V), x = .ref b ∧ H b = some (.lst xs) ∧ AllI xs ∧ xs.length ≤ 20
theorem LsOk.same {H H' : Hp} {vs : List V} (h : LsOk H vs) (e : Same H H') : LsOk H' vs := fun x hx => by
  obtain ⟨b, xs, h1, h2, h3⟩ := h x hx
  exact ⟨b, xs, h1, e _ _ h2, h3⟩
theorem LsOk.snoc {H : Hp} {vs : List V} {b : Addr} {xs : List V} (h : LsOk H vs) (hb : H b = some (.lst xs)) (h1 : AllI xs) (h2 : xs.length ≤ 20) : LsOk H (vs ++ [.ref b]) := fun x hx => by
  rcases List.mem_append.mp hx with hx | hx
  · exact h x hx
  · exact ⟨b, xs, List.mem_singleton.mp hx, hb, h1, h2⟩
theorem samexy {p L : Addr} {H H1 H2 : Hp} (e : SameX p H H1) (hL : H L = none) (k : SameY L p H1 H2) : SameX p H H2 := fun b o hb => by
  obtain ⟨n, hb'⟩ := hide_some hb
  have nL : b ≠ L := ne_of_none hb' hL
  have := hid2_some (k b o (hid2_of nL n (e.get n hb')))
  rw [hide_ne n]
  exact this.2.2
theorem SameY.get {L B b : Addr} {H H' : Hp} {o : HO} (e : SameY L B H H') (h1 : b ≠ L) (h2 : b ≠ B) (h : H b = some o) : H' b = some o := (hid2_some (e b o (hid2_of h1 h2 h))).2.2
theorem SameY.trans {L B : Addr} {H H1 H2 : Hp} (a : SameY L B H H1) (b : SameY L B H1 H2) : SameY L B H H2 := fun c o h => b c o (a c o h)
theorem SameY.ofX {L B : Addr} {H H' : Hp} (e : SameX B H H') : SameY L B H H' := hide_same e
theorem SameY.set {L B l : Addr} {H H' : Hp} (e : SameY L B H H') (hl : H l = none) (o : HO) : SameY L B H (upd H' l o) := fun b u hb => by
  obtain ⟨n1, n2, hb'⟩ := hid2_some hb
  exact hid2_of n1 n2 (by rw [upd_ne (ne_of_none hb' hl)]; exact e.get n1 n2 hb')
def spLT : Sp := fun vs H Q _ => ∃ (p c a l : Addr) (zs lv : List V) (rs ly : List (Int × Int)) (ps : List Int), vs = [.ref p, .ref c, .ref a, .ref l] ∧ DeckAt p H ∧ c ≠ p ∧ a ≠ p ∧ l ≠ p ∧ H c = some (.lst zs) ∧ IsDs (hide p H) (rs.map rdt) zs ∧ H a = some (.lst lv) ∧ IsDs (hide p H) (ly.map rdt) lv ∧ H l = some (.lst (ps.map V.int)) ∧ ps.length = rs.length ∧ RmOk rs ∧ LyOk ly ∧
  ∀ (L : Addr) (vs : List V) (H' : Hp), SameX p H H' → H L = none → L ≠ p → H' L = some (.lst vs) → LsOk (hide p H') vs → vs.length ≤ 1000 → DeckAt p H' → Q (.ref L) H'
section
variable {P : Program} {w : World} {K : PySem.W.Frag} {mg : Str → Option Value} {base : Heap} {f fNX : Addr} {fd dNX : FuncData}
set_option maxHeartbeats 32000000 in
theorem ok_lt (F : Fun K "_law_lists" "_law_lists" s_law_lists f fd) (xNX : Fx K mg "_law_next" s_law_next ["deck"] fNX dNX) (GNX : FnOk P w K mg base CX0 1 fNX dNX ["deck"] spNX) (m_range : mg "range" = none) (m_list : mg "list" = none) (m_len : mg "len" = none) (m_int : mg "int" = none) : FnOk P w K mg base CX0 2 f fd ["deck", "sizes", "lying", "places"] spLT := by
  refine F.ok sc_law_lists (fun vs H Q E h => ?_) (fun cdv A outer s H vs Q E hr h => ?_)
  · obtain ⟨p, c, a, l, zs, lv, rs, ly, ps, rfl, _⟩ := h
    rfl
  obtain ⟨p, c, a, l, zs, lv, rs, ly, ps, rfl, hP, hcp, hap, hlp, hc, hzs, ha, hlv, hl, hpl, hR, hL, q⟩ := h
  have hu := hr.units0
  have h6 := hR.1
  have hl20 := hL.2.1
  have hlz : zs.length = rs.length := by rw [hzs.len, List.length_map]
  have hll : lv.length = ly.length := by rw [hlv.len, List.length_map]
  have hpv : (ps.map V.int).length = rs.length := by rw [List.length_map, hpl]
  have bNX := xNX.b
  have kNX := xNX.k
  have mNX := xNX.m
  refine ⟨_, (pss_cons (ps_set (i := 4) sc_law_lists.nd rfl (Or.inr rfl) (pe_op op_add (pe_op op_mulB (pe_call GNX hr rfl mNX kNX bNX .nil pass0 (pa_cons (pv 0) pa_nil)) (pe_op op_pow pe_int pe_int)) (pe_call GNX hr rfl mNX kNX bNX .nil pass0 (pa_cons (pv 0) pa_nil))))
    (pss_cons (ps_set (i := 5) sc_law_lists.nd rfl (Or.inl rfl) (pe_lst (pa_cons (pv 3) (pa_cons (pe_lst pa_nil) (pa_cons (pe_slice sl_list (pv 3) (po_some pe_int) po_none) (pa_cons (pe_op op_cat (pv 3) (pe_lst (pa_cons (pe_op op_mulB (pv 4) pe_int) pa_nil))) (pa_cons (pe_comp (dsc := defScope s_law_lists) (N := ["deck", "sizes", "lying", "places", "far", "lists", "turn", "at", "room", "m", "other", "some", "one", "turned"]) (tgs := ["k"]) (outs := [4]) (N' := ["k", "far"]) ⟨rfl, by decide +kernel, by decide +kernel, by decide +kernel, rfl, by decide +kernel, by decide +kernel, by decide +kernel⟩ (pi_range1 rfl m_range (pa_cons (pe_callB call_len_seq rfl m_len PySem.boot_len (pa_cons (pv 3) pa_nil)) pa_nil)) (fun _ _ _ _ _ => (pg_name (i := 0) (show (["k", "far"] : List Str).Nodup by decide +kernel) rfl (Or.inl rfl) (.inr rfl))) (tgt_name (by decide)) (fun _ _ _ _ _ => pcs_nil) (fun _ _ _ _ _ => (pe_op op_add (pe_op op_mulB (pv 1) pe_int) (pe_op op_mulB (pe_op op_mulB pe_int pe_int) (pv 0))))) pa_nil)))))))
    (pss_cons (ps_for PassesOwn.never rfl (pi_range1 rfl m_range (pa_cons (pe_op op_mulB pe_int (pe_callTy call_int1 rfl m_int bt_int (pa_cons (pe_cmpR (op_neNil hu) (pv 3) (pe_lst pa_nil) (nomark _)) pa_nil))) pa_nil)) (pg_name (i := 6) sc_law_lists.nd rfl (Or.inl rfl)) (pss_cons (ps_set (i := 7) sc_law_lists.nd rfl (Or.inl rfl) (pe_op op_mod (pe_call GNX hr rfl mNX kNX bNX .nil pass0 (pa_cons (pv 0) pa_nil)) (pe_callB call_len_seq rfl m_len PySem.boot_len (pa_cons (pv 3) pa_nil))))
    (pss_cons (ps_asg (pe_ix ix_list (pv 1) (pv 7) (fun _ _ => rfl)) (pg_tup rfl (pgs_cons (pg_name (i := 8) sc_law_lists.nd rfl (Or.inl rfl)) (pgs_cons (pg_name (i := 9) sc_law_lists.nd rfl (Or.inl rfl)) pgs_nil))))
    (pss_cons (ps_set (i := 10) sc_law_lists.nd rfl (Or.inl rfl) (pe_op op_mod (pe_call GNX hr rfl mNX kNX bNX .nil pass0 (pa_cons (pv 0) pa_nil)) (pe_callB call_len_seq rfl m_len PySem.boot_len (pa_cons (pv 3) pa_nil))))
    (pss_cons (ps_set (i := 11) sc_law_lists.nd rfl (Or.inl rfl) (pe_lst (pa_cons (pe_op op_add (pe_ix ix_list (pv 3) (pv 7) (fun _ _ => rfl)) (pv 9)) (pa_cons (pe_op op_sub (pe_ix ix_list (pv 3) (pv 7) (fun _ _ => rfl)) (pv 9)) (pa_cons (pe_op op_add (pe_ix ix_list (pv 3) (pv 7) (fun _ _ => rfl)) pe_int) (pa_cons (pe_op op_sub (pe_ix ix_list (pv 3) (pv 7) (fun _ _ => rfl)) pe_int) (pa_cons (pe_op op_sub (pe_un un_neg pe_int) (pv 4)) (pa_cons (pe_op op_sub pe_int (pv 9)) (pa_cons (pe_ix ix_list (pv 3) (pv 10) (fun _ _ => rfl)) (pa_cons (pe_op op_mulB (pv 4) pe_int) pa_nil))))))))))
    (pss_cons (ps_set (i := 11) sc_law_lists.nd rfl (Or.inl rfl) (pe_op op_cat (pe_op op_cat (pv 11) (pe_lst (pa_cons (pe_op op_add (pe_ix ix_list (pv 3) (pv 10) (fun _ _ => rfl)) (pe_ix ix_tup (pe_ix ix_list (pv 1) (pv 10) (fun _ _ => rfl)) pe_int (fun _ _ => rfl))) (pa_cons (pe_op op_sub (pe_ix ix_list (pv 3) (pv 10) (fun _ _ => rfl)) (pv 8)) (pa_cons pe_int pa_nil))))) (pe_comp (dsc := defScope s_law_lists) (N := ["deck", "sizes", "lying", "places", "far", "lists", "turn", "at", "room", "m", "other", "some", "one", "turned"]) (tgs := ["low", "high"]) (outs := []) (N' := ["low", "high"]) ⟨rfl, by decide +kernel, by decide +kernel, by decide +kernel, rfl, by decide +kernel, by decide +kernel, by decide +kernel⟩ (pi_list (pe_slice sl_list (pv 2) (po_some (pe_un un_neg pe_int)) po_none)) (fun _ _ _ _ _ => (pg_tupK K (n := 2) rfl rfl (pgs_cons (pg_name (i := 0) (show (["low", "high"] : List Str).Nodup by decide +kernel) rfl (Or.inl rfl) (.inr rfl)) (pgs_cons (pg_name (i := 1) (show (["low", "high"] : List Str).Nodup by decide +kernel) rfl (Or.inl rfl) (.inr rfl)) pgs_nil)))) (tgt_tup (tgts_name (by decide) (tgts_name (by decide) tgts_nil tmono_nil) (tmono_name tmono_nil))) (fun _ _ _ _ _ => pcs_nil) (fun _ _ _ _ _ => (pv 0)))))
    (pss_cons (ps_for PassesOwn.never rfl (pi_list (pv 11)) (pg_name (i := 12) sc_law_lists.nd rfl (Or.inl rfl)) (pss_one (ps_expr (pe_bm PySem.F.plainAttrs_list PySem.F.slot_list_append PySem.F.type_list_append mt_append (pv 5) (pa_cons (pe_op op_cat (pe_op op_cat (pe_slice sl_list (pv 3) po_none (po_some (pv 7))) (pe_lst (pa_cons (pv 12) pa_nil))) (pe_slice sl_list (pv 3) (po_some (pe_op op_add (pv 7) pe_int)) po_none)) pa_nil)))))
    (pss_cons (ps_set (i := 13) sc_law_lists.nd rfl (Or.inl rfl) (pe_callTy call_list_of rfl m_list bt_list (pa_cons (pv 3) pa_nil)))
    (pss_cons (ps_asg (pe_ix ix_list (pv 3) (pv 10) (fun _ _ => rfl)) (pg_sub (pv 13) (pv 7) set_list))
    (pss_cons (ps_asg (pe_ix ix_list (pv 3) (pv 7) (fun _ _ => rfl)) (pg_sub (pv 13) (pv 10) set_list))
    (pss_one (ps_expr (pe_bm PySem.F.plainAttrs_list PySem.F.slot_list_append PySem.F.type_list_append mt_append (pv 5) (pa_cons (pv 13) pa_nil))))))))))))))
    (pss_one (ps_ret (pv 5)))))), ?_⟩
  refine ⟨_, rfl, p, rfl, hP, fun a1 H1 a10 a11 e1 hP1 => ⟨_, _, rfl, rfl, ⟨by decide, by decide, by decide⟩, _, _, rfl, rfl, ?_, _, rfl, p, rfl, hP1, fun a2 H2 a20 a21 e2 hP2 => ⟨_, _, rfl, rfl, ?_⟩⟩⟩
  · refine ⟨by omega, ?_⟩
    show ((10 : Int) ^ (24 : Int).toNat).natAbs < 2 ^ 250
    decide
  have h1024 : (10 : Int) ^ (24 : Int).toNat = 1000000000000000000000000 := by decide
  have hCM : CMulB (a1 * (10 : Int) ^ (24 : Int).toNat + a2) 8 := by
    rw [h1024]
    constructor <;> omega
  have e02 : SameX p H H2 := e1.trans e2
  have hl2 := e02.get hlp hl
  clear e1 hP1
  refine ⟨_, rfl, lists3 0 (by decide), fun l1 hl1 => ⟨_, rfl, _, rfl, l, _, rfl, SqL.of ((same_new hl1 _) _ _ hl2), fun l2 hl2' => ?_⟩⟩
  have s1 := same_new hl1 (.lst [])
  have s2 := same_new hl2' (.lst (cutV (ps.map V.int) (some 1) none))
  refine ⟨_, rfl, _, rfl, _, _, rfl, rfl, hCM, lists3 1 (by decide), fun l3 hl3 => ?_⟩
  have s3 := same_new hl3 (.lst [.int ((a1 * (10 : Int) ^ (24 : Int).toNat + a2) * 8)])
  refine ⟨l, l3, _, _, rfl, rfl, ((s1.trans s2).trans s3) _ _ hl2, upd_same, size5 (by rw [hpv]; show rs.length + 1 ≤ _; omega), fun l4 hl4 => ?_⟩
  have s4 := same_new hl4 (.lst (ps.map V.int ++ [.int ((a1 * (10 : Int) ^ (24 : Int).toNat + a2) * 8)]))
  have e4 := ((s1.trans s2).trans s3).trans s4
  have g1 := (((s2.trans s3).trans s4)) _ _ (upd_same (H := H2) (a := l1) (o := .lst []))
  have g2 := (s3.trans s4) _ _ (upd_same (H := upd H2 l1 (.lst [])) (a := l2) (o := .lst (cutV (ps.map V.int) (some 1) none)))
  have g4 : (upd (upd (upd (upd H2 l1 (.lst [])) l2 (.lst (cutV (ps.map V.int) (some 1) none))) l3 (.lst [.int ((a1 * (10 : Int) ^ (24 : Int).toNat + a2) * 8)])) l4 (.lst (ps.map V.int ++ [.int ((a1 * (10 : Int) ^ (24 : Int).toNat + a2) * 8)]))) l4 = some (.lst (ps.map V.int ++ [.int ((a1 * (10 : Int) ^ (24 : Int).toNat + a2) * 8)])) := upd_same
  generalize upd (upd (upd (upd H2 l1 (.lst [])) l2 (.lst (cutV (ps.map V.int) (some 1) none))) l3 (.lst [.int ((a1 * (10 : Int) ^ (24 : Int).toNat + a2) * 8)])) l4 (.lst (ps.map V.int ++ [.int ((a1 * (10 : Int) ^ (24 : Int).toNat + a2) * 8)])) = H4 at e4 g1 g2 g4
  have n1 : l1 ≠ p := hP2.ne hl1
  have n2 : l2 ≠ p := (hP2.same s1).ne hl2'
  have n4 : l4 ≠ p := (((hP2.same s1).same s2).same s3).ne hl4
  refine ⟨_, rfl, l, _, rfl, .inl (SqL.of (e4 _ _ hl2)), _, rfl, by omega, by omega, ?_⟩
  refine comp_range (fun i acc H' => Same H4 H' ∧ AllI acc ∧ acc.length = i) (by omega) ⟨Same.refl _, ⟨[], rfl⟩, rfl⟩ (fun i acc H' hi ⟨e, ea, eb⟩ => by omega) (fun i acc H' hi ⟨e, ea, eb⟩ => ?_) (fun acc H5 ⟨e5, ea, eb⟩ l5 hl5 => ?_)
  · refine nameYes ?_
    refine ⟨_, rfl, _, _, rfl, rfl, hCM, _, _, rfl, rfl, ⟨by decide, by decide⟩, _, rfl, _, _, rfl, rfl, ⟨by show ((2048 : Int) * 8).natAbs < 2 ^ 250; decide, by show (0 + (i : Int)).natAbs < 2 ^ 250; omega⟩, _, _, rfl, rfl, e, ea.app ⟨[_], rfl⟩, by rw [List.length_append, eb]; rfl⟩
  have s5 := same_new hl5 (.lst acc)
  have e45 := e5.trans s5
  have n5 : l5 ≠ p := ((hP2.same e4).same e5).ne hl5
  have g5 : (upd H5 l5 (.lst acc)) l5 = some (.lst acc) := upd_same
  have hacc : acc.length ≤ 6 := by omega
  have e5' := e4.trans e45
  have hP5 := hP2.same e5'
  have hls5 : LsOk (hide p (upd H5 l5 (.lst acc))) [.ref l, .ref l1, .ref l2, .ref l4, .ref l5] := fun x hx => by
    simp only [List.mem_cons, List.not_mem_nil, or_false] at hx
    have hpa : AllI (ps.map V.int) := ⟨ps, rfl⟩
    rcases hx with rfl | rfl | rfl | rfl | rfl
    · exact ⟨l, _, rfl, by rw [hide_ne hlp]; exact e5' _ _ hl2, hpa, by omega⟩
    · exact ⟨l1, _, rfl, by rw [hide_ne n1]; exact e45 _ _ g1, ⟨[], rfl⟩, by decide⟩
    · exact ⟨l2, _, rfl, by rw [hide_ne n2]; exact e45 _ _ g2, hpa.cut _ _, Nat.le_trans (cut_len _ _ _) (by omega)⟩
    · exact ⟨l4, _, rfl, by rw [hide_ne n4]; exact e45 _ _ g4, hpa.app ⟨[_], rfl⟩, by rw [List.length_append, hpv]; show rs.length + 1 ≤ 20; omega⟩
    · exact ⟨l5, _, rfl, by rw [hide_ne n5]; exact g5, ea, by omega⟩
  have eX5 : SameX p H (upd H5 l5 (.lst acc)) := e02.trans (SameX.of e5')
  generalize upd H5 l5 (.lst acc) = H6 at hls5 hP5 eX5
  clear s1 s2 s3 s4 s5 e4 e5 e45 e5' g1 g2 g4 g5 hl1 hl2' hl3 hl4 hl5 n1 n2 n4 n5 ea eb hP2 e2 hl2
  refine ⟨lists3 5 (by decide), fun L hL0 => ?_⟩
  have s6 := same_new hL0 (.lst [.ref l, .ref l1, .ref l2, .ref l4, .ref l5])
  have hLp : L ≠ p := hP5.ne hL0
  have hLH : H L = none := by
    cases z : H L with
    | none => rfl
    | some o => rw [eX5.get hLp z] at hL0; cases hL0
  have hlL : l ≠ L := fun z => by rw [z, hLH] at hl; cases hl
  have hcL : c ≠ L := fun z => by rw [z, hLH] at hc; cases hc
  have haL : a ≠ L := fun z => by rw [z, hLH] at ha; cases ha
  have hls6 : LsOk (hid2 L p (upd H6 L (.lst [.ref l, .ref l1, .ref l2, .ref l4, .ref l5]))) [.ref l, .ref l1, .ref l2, .ref l4, .ref l5] := hls5.same fun b o hb => by
    obtain ⟨n, hb⟩ := hide_some hb
    exact hid2_of (ne_of_none hb hL0) n (s6 _ _ hb)
  have gL6 : (upd H6 L (.lst [.ref l, .ref l1, .ref l2, .ref l4, .ref l5])) L = some (.lst [.ref l, .ref l1, .ref l2, .ref l4, .ref l5]) := upd_same
  have eX6 : SameX p H (upd H6 L (.lst [.ref l, .ref l1, .ref l2, .ref l4, .ref l5])) := eX5.trans (SameX.of s6)
  have hP6 := hP5.same s6
  generalize upd H6 L (.lst [.ref l, .ref l1, .ref l2, .ref l4, .ref l5]) = H7 at hls6 gL6 eX6 hP6
  have hln : [V.ref l, V.ref l1, V.ref l2, V.ref l4, V.ref l5].length = 5 := rfl
  generalize [V.ref l, V.ref l1, V.ref l2, V.ref l4, V.ref l5] = vs0 at hls6 gL6 hln
  clear hls5 hP5 eX5 s6 hL0
  have hl7 := eX6.get hlp hl
  refine ⟨_, rfl, lists3 0 (by decide), fun l6 hl6 => ⟨l, l6, _, rfl, rfl, SqL.of ((same_new hl6 _) _ _ hl7), SqL.of upd_same, .inr ⟨_, rfl, _, _, rfl, rfl, ?_, _, rfl, ?_, ?_, ?_⟩⟩⟩
  · split <;> exact ⟨by decide, by decide⟩
  · split <;> decide
  · split <;> decide
  have s7 := same_new hl6 (.lst [])
  refine for_range (fun i σ H' => ∃ (vs : List V) (x6 x7 x8 x9 x10 x11 x12 x13 : Option V), σ = [some (.ref p), some (.ref c), some (.ref a), some (.ref l), some (.int (a1 * (10 : Int) ^ (24 : Int).toNat + a2)), some (.ref L), x6, x7, x8, x9, x10, x11, x12, x13] ∧ SameX p H H' ∧ DeckAt p H' ∧ H' L = some (.lst vs) ∧ LsOk (hid2 L p H') vs ∧ vs.length ≤ 5 + 40 * i)
    ⟨vs0, _, _, _, _, _, _, _, _, rfl, eX6.trans (SameX.of s7), hP6.same s7, s7 _ _ gL6, hls6.same (SameY.of s7), by omega⟩ (fun i σ H' hi ⟨vs, x6, x7, x8, x9, x10, x11, x12, x13, es, eX, hPx, hLx, hlsx, hlen⟩ => ?_) (fun σ H' ⟨vs, x6, x7, x8, x9, x10, x11, x12, x13, es, eX, hPx, hLx, hlsx, hlen⟩ => ?_)
  · subst es
    have hne : ps ≠ [] := fun z => by
      rw [z] at hi
      exact Nat.not_lt_zero i hi
    have hpos : 0 < rs.length := by rw [← hpl]; exact List.length_pos_iff.mpr hne
    have hi3 : i < 3 := Nat.lt_of_lt_of_le hi (by split <;> decide)
    have hlx := eX.get hlp hl
    refine ⟨_, rfl, p, rfl, hPx, fun b1 H8 b10 b11 e8 hP8 => ⟨_, rfl, l, _, rfl, .inl (SqL.of (e8.get hlp hlx)), _, _, rfl, rfl, (by show 0 < (((ps.map V.int).length : Nat) : Int); omega), ?_⟩⟩
    have i0 : 0 ≤ b1 % (((ps.map V.int).length : Nat) : Int) := Int.emod_nonneg _ (by omega)
    have i1 : b1 % (((ps.map V.int).length : Nat) : Int) < (((ps.map V.int).length : Nat) : Int) := Int.emod_lt_of_pos _ (by omega)
    have eX8 : SameX p H H8 := eX.trans e8
    obtain ⟨r, pr, haz, hpr⟩ := size_at (hzs.same eX8) i0 (by omega)
    refine ⟨_, rfl, _, rfl, c, _, _, _, rfl, rfl, SqL.of (eX8.get hcp hc), haz, pr, _, rfl, SqT.of (hide_some hpr).2, rfl, _, _, rfl, _, _, rfl, rfl, ?_⟩
    refine ⟨_, rfl, p, rfl, hP8, fun b2 H9 b20 b21 e9 hP9 => ⟨_, rfl, l, _, rfl, .inl (SqL.of (e9.get hlp (e8.get hlp hlx))), _, _, rfl, rfl, (by show 0 < (((ps.map V.int).length : Nat) : Int); omega), ?_⟩⟩
    have k0 : 0 ≤ b2 % (((ps.map V.int).length : Nat) : Int) := Int.emod_nonneg _ (by omega)
    have k1 : b2 % (((ps.map V.int).length : Nat) : Int) < (((ps.map V.int).length : Nat) : Int) := Int.emod_lt_of_pos _ (by omega)
    have eX9 : SameX p H H9 := eX8.trans e9
    have hl9 := eX9.get hlp hl
    have hL9 : H9 L = some (.lst vs) := e9.get hLp (e8.get hLp hLx)
    have hls9 : LsOk (hid2 L p H9) vs := (hlsx.same (SameY.ofX e8)).same (SameY.ofX e9)
    clear e8 e9 hP8 hPx hLx hlsx hlx hpr haz
    generalize hAt : b1 % (((ps.map V.int).length : Nat) : Int) = at' at i0 i1
    generalize hOt : b2 % (((ps.map V.int).length : Nat) : Int) = ot at k0 k1
    obtain ⟨va, hva⟩ := ints_at (ps := ps) i0 (by omega)
    obtain ⟨vo, hvo⟩ := ints_at (ps := ps) k0 (by omega)
    obtain ⟨r2, pr2, haz2, hpr2⟩ := size_at (hzs.same eX9) k0 (by omega)
    subst hAt hOt
    refine ⟨_, rfl, _, rfl, l, _, _, _, rfl, rfl, SqL.of hl9, hva, _, rfl, _, _, rfl, rfl, _, rfl, _, rfl, l, _, _, _, rfl, rfl, SqL.of hl9, hva, _, rfl, _, _, rfl, rfl, _, rfl, _, rfl, l, _, _, _, rfl, rfl, SqL.of hl9, hva, _, _, rfl, rfl, _, rfl, _, rfl, l, _, _, _, rfl, rfl, SqL.of hl9, hva, _, _, rfl, rfl, ?_⟩
    refine ⟨_, rfl, _, rfl, _, _, rfl, rfl, _, rfl, _, _, rfl, rfl, _, rfl, _, rfl, l, _, _, _, rfl, rfl, SqL.of hl9, hvo, _, rfl, _, _, rfl, rfl, hCM, lists3 8 (by decide), fun S1 hS1 => ?_⟩
    have hc9 := eX9.get hcp hc
    have ha9 := eX9.get hap ha
    have s1 := same_new hS1 (.lst [V.int (va + r.2), V.int (va - r.2), V.int (va + 1), V.int (va - 1), V.int (-1 - (a1 * (10 : Int) ^ (24 : Int).toNat + a2)), V.int (0 - r.2), V.int (vo), V.int ((a1 * (10 : Int) ^ (24 : Int).toNat + a2) * 8)])
    refine ⟨_, rfl, _, rfl, _, rfl, l, _, _, _, rfl, rfl, SqL.of (s1 _ _ hl9), hvo, _, rfl, _, rfl, c, _, _, _, rfl, rfl, SqL.of (s1 _ _ hc9), haz2, pr2, _, _, _, rfl, rfl, SqT.of (s1 _ _ (hide_some hpr2).2), rfl, _, _, rfl, rfl, _, rfl, _, rfl, l, _, _, _, rfl, rfl, SqL.of (s1 _ _ hl9), hvo, _, rfl, _, _, rfl, rfl, lists3 3 (by decide), fun S2 hS2 => ?_⟩
    have s2 := same_new hS2 (.lst [V.int (vo + r2.1), V.int (vo - r.1), V.int (0)])
    refine ⟨S1, S2, [V.int (va + r.2), V.int (va - r.2), V.int (va + 1), V.int (va - 1), V.int (-1 - (a1 * (10 : Int) ^ (24 : Int).toNat + a2)), V.int (0 - r.2), V.int (vo), V.int ((a1 * (10 : Int) ^ (24 : Int).toNat + a2) * 8)], [V.int (vo + r2.1), V.int (vo - r.1), V.int (0)], rfl, rfl, s2 _ _ upd_same, upd_same, size5 (n := 11) (by decide), fun S3 hS3 => ?_⟩
    have s3 := same_new hS3 (.lst ([V.int (va + r.2), V.int (va - r.2), V.int (va + 1), V.int (va - 1), V.int (-1 - (a1 * (10 : Int) ^ (24 : Int).toNat + a2)), V.int (0 - r.2), V.int (vo), V.int ((a1 * (10 : Int) ^ (24 : Int).toNat + a2) * 8)] ++ [V.int (vo + r2.1), V.int (vo - r.1), V.int (0)]))
    refine ⟨_, rfl, _, rfl, _, rfl, a, _, rfl, SqL.of (((s1.trans s2).trans s3) _ _ ha9), fun S4 hS4 => ?_⟩
    have s4 := same_new hS4 (.lst (cutV lv (some (-2)) none))
    have e10 := ((s1.trans s2).trans s3).trans s4
    have gS3 := s4 _ _ (upd_same (H := upd (upd H9 S1 (.lst [V.int (va + r.2), V.int (va - r.2), V.int (va + 1), V.int (va - 1), V.int (-1 - (a1 * (10 : Int) ^ (24 : Int).toNat + a2)), V.int (0 - r.2), V.int (vo), V.int ((a1 * (10 : Int) ^ (24 : Int).toNat + a2) * 8)])) S2 (.lst [V.int (vo + r2.1), V.int (vo - r.1), V.int (0)])) (a := S3) (o := .lst ([V.int (va + r.2), V.int (va - r.2), V.int (va + 1), V.int (va - 1), V.int (-1 - (a1 * (10 : Int) ^ (24 : Int).toNat + a2)), V.int (0 - r.2), V.int (vo), V.int ((a1 * (10 : Int) ^ (24 : Int).toNat + a2) * 8)] ++ [V.int (vo + r2.1), V.int (vo - r.1), V.int (0)])))
    have gS4 : (upd (upd (upd (upd H9 S1 (.lst [V.int (va + r.2), V.int (va - r.2), V.int (va + 1), V.int (va - 1), V.int (-1 - (a1 * (10 : Int) ^ (24 : Int).toNat + a2)), V.int (0 - r.2), V.int (vo), V.int ((a1 * (10 : Int) ^ (24 : Int).toNat + a2) * 8)])) S2 (.lst [V.int (vo + r2.1), V.int (vo - r.1), V.int (0)])) S3 (.lst ([V.int (va + r.2), V.int (va - r.2), V.int (va + 1), V.int (va - 1), V.int (-1 - (a1 * (10 : Int) ^ (24 : Int).toNat + a2)), V.int (0 - r.2), V.int (vo), V.int ((a1 * (10 : Int) ^ (24 : Int).toNat + a2) * 8)] ++ [V.int (vo + r2.1), V.int (vo - r.1), V.int (0)]))) S4 (.lst (cutV lv (some (-2)) none))) S4 = some (.lst (cutV lv (some (-2)) none)) := upd_same
    generalize upd (upd (upd (upd H9 S1 (.lst [V.int (va + r.2), V.int (va - r.2), V.int (va + 1), V.int (va - 1), V.int (-1 - (a1 * (10 : Int) ^ (24 : Int).toNat + a2)), V.int (0 - r.2), V.int (vo), V.int ((a1 * (10 : Int) ^ (24 : Int).toNat + a2) * 8)])) S2 (.lst [V.int (vo + r2.1), V.int (vo - r.1), V.int (0)])) S3 (.lst ([V.int (va + r.2), V.int (va - r.2), V.int (va + 1), V.int (va - 1), V.int (-1 - (a1 * (10 : Int) ^ (24 : Int).toNat + a2)), V.int (0 - r.2), V.int (vo), V.int ((a1 * (10 : Int) ^ (24 : Int).toNat + a2) * 8)] ++ [V.int (vo + r2.1), V.int (vo - r.1), V.int (0)]))) S4 (.lst (cutV lv (some (-2)) none)) = H10 at e10 gS3 gS4
    have hX : AllI ([V.int (va + r.2), V.int (va - r.2), V.int (va + 1), V.int (va - 1), V.int (-1 - (a1 * (10 : Int) ^ (24 : Int).toNat + a2)), V.int (0 - r.2), V.int (vo), V.int ((a1 * (10 : Int) ^ (24 : Int).toNat + a2) * 8)] ++ [V.int (vo + r2.1), V.int (vo - r.1), V.int (0)]) := ⟨[va + r.2, va - r.2, va + 1, va - 1, -1 - (a1 * (10 : Int) ^ (24 : Int).toNat + a2), 0 - r.2, vo, (a1 * (10 : Int) ^ (24 : Int).toNat + a2) * 8] ++ [vo + r2.1, vo - r.1, 0], rfl⟩
    have hXl : ([V.int (va + r.2), V.int (va - r.2), V.int (va + 1), V.int (va - 1), V.int (-1 - (a1 * (10 : Int) ^ (24 : Int).toNat + a2)), V.int (0 - r.2), V.int (vo), V.int ((a1 * (10 : Int) ^ (24 : Int).toNat + a2) * 8)] ++ [V.int (vo + r2.1), V.int (vo - r.1), V.int (0)]).length = 11 := rfl
    generalize [V.int (va + r.2), V.int (va - r.2), V.int (va + 1), V.int (va - 1), V.int (-1 - (a1 * (10 : Int) ^ (24 : Int).toNat + a2)), V.int (0 - r.2), V.int (vo), V.int ((a1 * (10 : Int) ^ (24 : Int).toNat + a2) * 8)] ++ [V.int (vo + r2.1), V.int (vo - r.1), V.int (0)] = X at gS3 hX hXl
    clear s1 s2 s3 s4 hS1 hS2 hS3 hS4
    have hcl := cut_len lv (some (-2)) none
    refine ⟨S4, rfl, ⟨_, SqL.of gS4⟩, ?_⟩
    refine comp_list (xs := cutV lv (some (-2)) none) (fun i acc H' => Same H10 H' ∧ AllI acc ∧ acc.length ≤ i) (by omega) ⟨Same.refl _, ⟨[], rfl⟩, Nat.le_refl _⟩ (fun i acc H' hi ⟨e, ea, eb⟩ => ⟨SqL.of (e _ _ gS4), eb⟩) (fun i x acc H' hx ⟨e, ea, eb⟩ => ?_) (fun acc H11 ⟨e11, ea, eb⟩ lc hlc => ?_)
    · obtain ⟨i2, hi2⟩ := List.getElem?_of_mem (cut_mem (List.mem_of_getElem? hx))
      obtain ⟨st, pst, _, rfl, hpst⟩ := rooms_at (hlv.same eX9) hi2
      refine ⟨pst, _, rfl, SqT.of (e _ _ (e10 _ _ (hide_some hpst).2)), rfl, _, _, rfl, _, _, rfl, rfl, ?_⟩
      refine yesT ?_
      exact ⟨_, rfl, e, ea.app ⟨[_], rfl⟩, by rw [List.length_append]; exact Nat.succ_le_succ eb⟩
    have s5 := same_new hlc (.lst acc)
    refine ⟨S3, lc, _, _, rfl, rfl, s5 _ _ (e11 _ _ gS3), upd_same, size5 (by omega), fun S hS => ?_⟩
    have s6 := same_new hS (.lst (X ++ acc))
    have eb9 := ((e10.trans e11).trans s5).trans s6
    have gS : (upd (upd H11 lc (.lst acc)) S (.lst (X ++ acc))) S = some (.lst (X ++ acc)) := upd_same
    have nSL : S ≠ L := fun z => by rw [z, ((e10.trans e11).trans s5) _ _ hL9] at hS; cases hS
    have nSp : S ≠ p := (((hP9.same e10).same e11).same s5).ne hS
    have hxs := hX.app ea
    have hxl : (X ++ acc).length ≤ 31 := by rw [List.length_append]; omega
    generalize upd (upd H11 lc (.lst acc)) S (.lst (X ++ acc)) = Hb at eb9 gS
    generalize X ++ acc = xs at gS hxs hxl
    clear s5 s6 hS hlc e11 e10 gS3 gS4 eb ea hX
    have hPb := hP9.same eb9
    have eXb : SameX p H Hb := eX9.trans (SameX.of eb9)
    have hLb := eb9 _ _ hL9
    have hlb := eb9 _ _ hl9
    have hlsb : LsOk (hid2 L p Hb) vs := hls9.same (SameY.of eb9)
    clear hP9 hL9 hl9 hls9 eb9 ha9 hc9
    have hpa : AllI (ps.map V.int) := ⟨ps, rfl⟩
    refine ⟨_, rfl, S, rfl, ⟨_, SqL.of gS⟩, ?_⟩
    refine for_list (xs := xs) (fun t σ H' => ∃ (vs2 : List V) (x12 : Option V), σ = [some (.ref p), some (.ref c), some (.ref a), some (.ref l), some (.int (a1 * (10 : Int) ^ (24 : Int).toNat + a2)), some (.ref L), some (.int (0 + (i : Int))), some (.int (b1 % (((ps.map V.int).length : Nat) : Int))), some (.int r.1), some (.int r.2), some (.int (b2 % (((ps.map V.int).length : Nat) : Int))), some (.ref S), x12, x13] ∧ SameY L p Hb H' ∧ DeckAt p H' ∧ H' L = some (.lst vs2) ∧ LsOk (hid2 L p H') vs2 ∧ vs2.length ≤ 5 + 40 * i + t)
      ⟨vs, _, rfl, SameY.of (Same.refl _), hPb, hLb, hlsb, hlen⟩ (fun t σ H' hi ⟨vs2, x12, es, eY, hPy, hLy, hlsy, hlen2⟩ => SqL.of (eY.get nSL nSp gS)) (fun t x σ H' hx ⟨vs2, x12, es, eY, hPy, hLy, hlsy, hlen2⟩ => ?_) (fun σ H' ⟨vs2, x12, es, eY, hPy, hLy, hlsy, hlen2⟩ => ?_)
    · subst es
      obtain ⟨ns, rfl⟩ := hxs
      have ht : t < (ns.map V.int).length := (List.getElem?_eq_some_iff.mp hx).1
      obtain ⟨z, _, rfl⟩ := List.mem_map.mp (List.mem_of_getElem? hx)
      have hly := eY.get hlL hlp hlb
      have hca : AllI (cutV (ps.map V.int) none (some (b1 % (((ps.map V.int).length : Nat) : Int)))) := hpa.cut _ _
      have hcb : AllI (cutV (ps.map V.int) (some (b1 % (((ps.map V.int).length : Nat) : Int) + 1)) none) := hpa.cut _ _
      have hla := cut_len (ps.map V.int) none (some (b1 % (((ps.map V.int).length : Nat) : Int)))
      have hlb2 := cut_len (ps.map V.int) (some (b1 % (((ps.map V.int).length : Nat) : Int) + 1)) none
      refine ⟨_, rfl, .inl ⟨rfl, _, SqL.of hLy⟩, _, rfl, _, rfl, _, rfl, l, _, rfl, SqL.of hly, fun k1 hk1 => ?_⟩
      have s1 := same_new hk1 (.lst (cutV (ps.map V.int) none (some (b1 % (((ps.map V.int).length : Nat) : Int)))))
      refine ⟨_, rfl, lists3 1 (by decide), fun k2 hk2 => ?_⟩
      have s2 := same_new hk2 (.lst [.int z])
      refine ⟨k1, k2, _, _, rfl, rfl, s2 _ _ upd_same, upd_same, size5 (by show _ + 1 ≤ _; omega), fun k3 hk3 => ?_⟩
      have s3 := same_new hk3 (.lst (cutV (ps.map V.int) none (some (b1 % (((ps.map V.int).length : Nat) : Int))) ++ [.int z]))
      refine ⟨_, rfl, _, rfl, _, _, rfl, rfl, _, rfl, l, _, rfl, SqL.of (((s1.trans s2).trans s3) _ _ hly), fun k4 hk4 => ?_⟩
      have s4 := same_new hk4 (.lst (cutV (ps.map V.int) (some (b1 % (((ps.map V.int).length : Nat) : Int) + 1)) none))
      refine ⟨k3, k4, _, _, rfl, rfl, s4 _ _ upd_same, upd_same, size5 (by rw [List.length_append]; show _ + 1 + _ ≤ _; omega), fun k5 hk5 => ?_⟩
      have s5 := same_new hk5 (.lst (cutV (ps.map V.int) none (some (b1 % (((ps.map V.int).length : Nat) : Int))) ++ [.int z] ++ cutV (ps.map V.int) (some (b1 % (((ps.map V.int).length : Nat) : Int) + 1)) none))
      have e5 := (((s1.trans s2).trans s3).trans s4).trans s5
      have e4 := ((s1.trans s2).trans s3).trans s4
      have n5p : k5 ≠ p := (hPy.same e4).ne hk5
      have n5L : k5 ≠ L := fun zz => by rw [zz, e4 _ _ hLy] at hk5; cases hk5
      refine ⟨L, vs2, _, rfl, rfl, e5 _ _ hLy, small1000 (by omega), ?_⟩
      refine ⟨vs2 ++ [.ref k5], _, rfl, eY.trans ((SameY.of e5).trans (SameY.updL _ _ _ _)), (hPy.same e5).set hLp _, upd_same, LsOk.snoc ((hlsy.same (SameY.of e5)).same (SameY.updL _ _ _ _)) (hid2_of n5L n5p (by rw [upd_ne n5L]; exact upd_same)) ((hca.app ⟨[z], rfl⟩).app hcb) ?_, ?_⟩
      · rw [List.length_append, List.length_append]
        show _ + 1 + _ ≤ 20
        omega
      · rw [List.length_append]
        show _ + 1 ≤ _
        omega
    subst es
    have hly := eY.get hlL hlp hlb
    refine ⟨_, rfl, l, _, rfl, .inl (SqL.of hly), fun T hT => ?_⟩
    have s1 := same_new hT (.lst (ps.map V.int))
    have nTp : T ≠ p := hPy.ne hT
    have nTL : T ≠ L := fun z => by rw [z, hLy] at hT; cases hT
    have nlT : l ≠ T := fun z => by rw [← z, hly] at hT; cases hT
    have ja := ixN_int (n := (ps.map V.int).length) i0 i1
    have jb := ixN_int (n := ((ps.map V.int).set (b1 % (((ps.map V.int).length : Nat) : Int)).toNat (.int vo)).length) k0 (by rw [List.length_set]; exact k1)
    refine ⟨_, rfl, _, rfl, l, _, _, _, rfl, rfl, SqL.of (s1 _ _ hly), hvo, _, rfl, _, rfl, T, _, _, _, rfl, rfl, upd_same, ja, ?_⟩
    refine ⟨_, rfl, _, rfl, l, _, _, _, rfl, rfl, SqL.of (by rw [upd_ne nlT]; exact s1 _ _ hly), hva, _, rfl, _, rfl, T, _, _, _, rfl, rfl, upd_same, jb, ?_⟩
    have hTi := (hpa.set (b1 % (((ps.map V.int).length : Nat) : Int)).toNat vo).set (b2 % (((ps.map V.int).length : Nat) : Int)).toNat va
    have hLT : ∀ o1 o2, (upd (upd (upd H' T (.lst (ps.map V.int))) T o1) T o2) L = some (.lst vs2) := fun o1 o2 => by rw [upd_ne (fun z => nTL z.symm), upd_ne (fun z => nTL z.symm)]; exact s1 _ _ hLy
    have eT : ∀ o1 o2, SameY L p H' (upd (upd (upd H' T (.lst (ps.map V.int))) T o1) T o2) := fun o1 o2 => ((SameY.of s1).set hT o1).set hT o2
    have hPT : ∀ o1 o2, DeckAt p (upd (upd (upd H' T (.lst (ps.map V.int))) T o1) T o2) := fun o1 o2 => ((hPy.same s1).set nTp o1).set nTp o2
    refine ⟨_, rfl, .inl ⟨rfl, _, SqL.of (hLT _ _)⟩, _, rfl, L, vs2, _, rfl, rfl, hLT _ _, small1000 (by omega), ?_⟩
    refine ⟨vs2 ++ [.ref T], _, _, _, _, _, _, _, _, rfl, samexy eXb hLH (eY.trans ((eT _ _).trans (SameY.updL _ _ _ _))), (hPT _ _).set hLp _, upd_same, LsOk.snoc (hlsy.same ((eT _ _).trans (SameY.updL _ _ _ _))) (hid2_of nTL nTp (by rw [upd_ne nTL]; exact upd_same)) hTi (by rw [List.length_set, List.length_set]; omega), ?_⟩
    rw [List.length_append]
    show _ + 1 ≤ _
    omega
  · subst es
    refine ⟨_, rfl, q L vs _ eX hLH hLp hLx (hlsx.same (hide_sub _ _)) (Nat.le_trans hlen ?_) hPx⟩
    split <;> decide
end

mutual
theorem Kd.Fit.rm_pos : ∀ (k : Kd), k.Fit → 1 ≤ k.rm.1 ∧ 1 ≤ k.rm.2 ∧ k.rm.2 ≤ 8
  | .num w m, h => by
    obtain ⟨a, b, c, d⟩ := Kd.bd _ (Kd.Fit.ok _ h)
    exact ⟨h.1, c, d⟩
  | .row k n, h => by
    obtain ⟨a, b, c, d⟩ := Kd.bd _ (Kd.Fit.ok _ h)
    obtain ⟨i1, i2, i3⟩ := Kd.Fit.rm_pos k h.1
    obtain ⟨u1, u2⟩ := up_bounds (n := k.rm.1) (m := k.rm.2) (by omega)
    refine ⟨?_, c, d⟩
    show 1 ≤ n * up k.rm.1 k.rm.2
    have h1 := h.2.1
    have : 1 * 1 ≤ n * up k.rm.1 k.rm.2 := Int.mul_le_mul h1 (by omega) (by decide) (by omega)
    omega
  | .rcd fs, h => by
    obtain ⟨a, b, c, d⟩ := Kd.bd _ (Kd.Fit.ok _ h)
    refine ⟨?_, c, d⟩
    have hp := fitF_rm fs h.1 (by have := h.2.1; intro z; rw [z] at this; simp at this)
    have hm := mx_bd (bdF fs (fitF_ok fs h.1))
    obtain ⟨u1, u2⟩ := up_bounds (n := lastEnd 0 (rmF fs)) (m := maxL 1 ((rmF fs).map (·.2))) (by omega)
    show 1 ≤ up (lastEnd 0 (rmF fs)) (maxL 1 ((rmF fs).map (·.2)))
    omega
  | .cho ks, h => by
    obtain ⟨a, b, c, d⟩ := Kd.bd _ (Kd.Fit.ok _ h)
    refine ⟨?_, c, d⟩
    have hm := mx_bd (bdK ks (Kd.Fit.ok _ h).1)
    obtain ⟨v1, v2⟩ := up_bounds (n := 1) (m := maxL 1 ((rmK ks).map (·.2))) (by omega)
    have g0 : 0 ≤ maxL 0 ((rmK ks).map (·.1)) := maxL_d _
    obtain ⟨u1, u2⟩ := up_bounds (n := up 1 (maxL 1 ((rmK ks).map (·.2))) + maxL 0 ((rmK ks).map (·.1))) (m := maxL 1 ((rmK ks).map (·.2))) (by omega)
    show 1 ≤ up (up 1 (maxL 1 ((rmK ks).map (·.2))) + maxL 0 ((rmK ks).map (·.1))) (maxL 1 ((rmK ks).map (·.2)))
    omega
theorem fitF_rm : ∀ (fs : List (Str × Kd)), fitF fs → fs ≠ [] → 1 ≤ lastEnd 0 (rmF fs)
  | [], _, h => absurd rfl h
  | f :: r, h, _ => by
    obtain ⟨i1, i2, i3⟩ := Kd.Fit.rm_pos f.2 h.1.2
    obtain ⟨u1, u2⟩ := up_bounds (n := 0) (m := f.2.rm.2) (by omega)
    have hb := bdF r (fitF_ok r h.2)
    have := lastEnd_ge (e := up 0 f.2.rm.2 + f.2.rm.1) (rs := rmF r) fun x hx => ⟨(hb x hx).1, by have := (hb x hx).2.2.1; omega⟩
    show 1 ≤ lastEnd (up 0 f.2.rm.2 + f.2.rm.1) (rmF r)
    omega
end
theorem fitK_at : ∀ {ks : List Kd} {i : Nat} {k : Kd}, fitK ks → ks[i]? = some k → k.Fit
  | [], _, _, _, e => by simp at e
  | k' :: r, 0, k, h, e => by simp at e; subst e; exact h.1
  | k' :: r, i + 1, k, h, e => fitK_at (i := i) h.2 (by simpa using e)
theorem rmK_of : ∀ {ks : List Kd} {i : Nat} {r : Int × Int}, (rmK ks)[i]? = some r → ∃ k, ks[i]? = some k ∧ r = k.rm
  | [], _, _, e => by simp [rmK] at e
  | k' :: ks, 0, r, e => by
    have e' : some k'.rm = some r := e
    cases e'
    exact ⟨k', rfl, rfl⟩
  | k' :: ks, i + 1, r, e => by
    have e' : (rmK ks)[i]? = some r := e
    obtain ⟨k, a, b⟩ := rmK_of e'
    exact ⟨k, by simpa using a, b⟩
theorem fitK_ok2 : ∀ {ks : List Kd}, fitK ks → okK ks ∧ fullK ks
  | [], _ => ⟨trivial, trivial⟩
  | k :: r, h => ⟨⟨Kd.Fit.ok k h.1, (fitK_ok2 h.2).1⟩, ⟨Kd.Fit.full k h.1, (fitK_ok2 h.2).2⟩⟩
theorem ints_is {H : Hp} : ∀ (l : List Int), IsDs H (l.map Dt.int) (l.map V.int)
  | [] => rfl
  | k :: l => ⟨_, _, rfl, rfl, ints_is l⟩
theorem deep_ints : ∀ (l : List Int), deepD (l.map Dt.int) ≤ 1
  | [] => Nat.zero_le _
  | k :: l => by
    have := deep_ints l
    show max 1 (deepD (l.map Dt.int)) ≤ 1
    omega
theorem rdt_sm : ∀ (l : List (Int × Int)), smD (l.map rdt) ∧ deepD (l.map rdt) ≤ 2
  | [] => ⟨trivial, Nat.zero_le _⟩
  | k :: l => by
    obtain ⟨a, b⟩ := rdt_sm l
    refine ⟨⟨⟨by show 2 ≤ 1000; decide, trivial, trivial, trivial⟩, a⟩, ?_⟩
    show max 2 (deepD (l.map rdt)) ≤ 2
    omega
theorem rm_ok6 {ks : List Kd} (h : fitK ks) (hl : ks.length ≤ 6) (hm : ∀ r ∈ rmK ks, r.1 ≤ 2000) : RmOk (rmK ks) := by
  have hlen : (rmK ks).length = ks.length := lenK ks
  refine ⟨by omega, fun r hr => ?_⟩
  obtain ⟨i, hi⟩ := List.getElem?_of_mem hr
  obtain ⟨kd, a, b⟩ := rmK_of hi
  have c := hm r hr
  have d := Kd.Fit.rm_pos kd (fitK_at h a)
  rw [← b] at d
  omega
theorem ints_back {H : Hp} : ∀ {l : List Int} {ws : List V}, IsDs H (l.map Dt.int) ws → ws = l.map V.int
  | [], _, h => h
  | k :: l, _, ⟨v, vr, h1, h2, h3⟩ => by
    have h2' : v = .int k := h2
    rw [h1, h2', ints_back h3]
    rfl
theorem ints_sm : ∀ (l : List Int), smD (l.map Dt.int)
  | [] => trivial
  | k :: l => ⟨trivial, ints_sm l⟩
section
variable {P : Program} {w : World} {K : PySem.W.Frag} {mg : Str → Option Value} {base : Heap} {f fCE fDE fNX fLY fSK fRM fLD fLT fCP fIS fIP : Addr} {fd dCE dDE dNX dLY dSK dRM dLD dLT dCP dIS dIP : FuncData}
def spLaw (K : PySem.W.Frag) : Sp := fun vs H Q _ => ∃ (a : Addr) (ns : List Int), vs = [.ref a] ∧ SqL K H a (ns.map V.int) ∧ ns.length ≤ 63 ∧ ∀ H', Q (.bl true) H'
theorem sql_same {K : PySem.W.Frag} {H H' : Hp} {a : Addr} {xs : List V} (h : SqL K H a xs) (e : Same H H') : SqL K H' a xs := by
  rcases h with (h | ⟨o, h⟩) | h
  · exact .inl (.inl (e _ _ h))
  · exact .inl (.inr ⟨o, e _ _ h⟩)
  · exact .inr h
set_option maxHeartbeats 16000000 in
theorem ok_law (F : Fun K "law" "law" s_law f fd) (xCE : Fx K mg "_law_cell_at" s_law_cell_at ["script", "k"] fCE dCE) (xDE : Fx K mg "_law_deck" s_law_deck ["cell", "many"] fDE dDE) (xNX : Fx K mg "_law_next" s_law_next ["deck"] fNX dNX) (xLY : Fx K mg "_law_lying" s_law_lying ["deck", "most", "far"] fLY dLY) (xSK : Fx K mg "_law_some_kinds" s_law_some_kinds ["deck", "most"] fSK dSK) (xRM : Fx K mg "_law_room" s_law_room ["kind"] fRM dRM) (xLD : Fx K mg "_law_laid" s_law_laid ["deck", "sizes", "lying"] fLD dLD) (xLT : Fx K mg "_law_lists" s_law_lists ["deck", "sizes", "lying", "places"] fLT dLT) (xCP : Fx K mg "_law_copy" s_law_copy ["thing"] fCP dCP) (xIS : Fx K mg "is_placing" s_is_placing ["kinds", "lying", "places"] fIS dIS) (xIP : Fx K mg "_law_is_placing" s_law_is_placing ["sizes", "lying", "places"] fIP dIP)
    (GCE : FnOk P w K mg base CX0 1 fCE dCE ["script", "k"] (spCE K)) (GDE : FnOk P w K mg base CX0 2 fDE dDE ["cell", "many"] spDE) (GNX : FnOk P w K mg base CX0 1 fNX dNX ["deck"] spNX) (GLY : FnOk P w K mg base CX0 2 fLY dLY ["deck", "most", "far"] spLY) (GSK : FnOk P w K mg base CX0 21 fSK dSK ["deck", "most"] spSK) (GRM : FnOk P w K mg base CX0 6 fRM dRM ["kind"] (spRM 5)) (GLD : FnOk P w K mg base CX0 2 fLD dLD ["deck", "sizes", "lying"] spLD) (GLT : FnOk P w K mg base CX0 2 fLT dLT ["deck", "sizes", "lying", "places"] spLT) (GCP : FnOk P w K mg base CX0 25 fCP dCP ["thing"] (spLC 24)) (GIS : FnOk P w K mg base CX0 21 fIS dIS ["kinds", "lying", "places"] (spIS 4)) (GIP : FnOk P w K mg base CX0 1 fIP dIP ["sizes", "lying", "places"] spIP)
    (m_max : mg "max" = none) (m_min : mg "min" = none) (m_range : mg "range" = none) (m_len : mg "len" = none) (m_isinstance : mg "isinstance" = none) (m_bool : mg "bool" = none) :
    FnOk P w K mg base CX0 30 f fd ["script"] (spLaw K) := by
  refine F.ok sc_law (fun vs H Q E h => ?_) (fun cdv A outer s H vs Q E hr h => ?_)
  · obtain ⟨a, ns, rfl, _⟩ := h
    rfl
  obtain ⟨a, ns, rfl, hS, h63, q⟩ := h
  have hu := hr.units0
  have bCE := xCE.b
  have kCE := xCE.k
  have mCE := xCE.m
  have bDE := xDE.b
  have kDE := xDE.k
  have mDE := xDE.m
  have bNX := xNX.b
  have kNX := xNX.k
  have mNX := xNX.m
  have bLY := xLY.b
  have kLY := xLY.k
  have mLY := xLY.m
  have bSK := xSK.b
  have kSK := xSK.k
  have mSK := xSK.m
  have bRM := xRM.b
  have kRM := xRM.k
  have mRM := xRM.m
  have bLD := xLD.b
  have kLD := xLD.k
  have mLD := xLD.m
  have bLT := xLT.b
  have kLT := xLT.k
  have mLT := xLT.m
  have bCP := xCP.b
  have kCP := xCP.k
  have mCP := xCP.m
  have bIS := xIS.b
  have kIS := xIS.k
  have mIS := xIS.m
  have bIP := xIP.b
  have kIP := xIP.k
  have mIP := xIP.m
  have h1 : 1 ≤ 29 := by decide
  have h2 : 2 ≤ 29 := by decide
  have h6 : 6 ≤ 29 := by decide
  have h21 : 21 ≤ 29 := by decide
  have h25 : 25 ≤ 29 := by decide
  refine ⟨_, (pss_cons (ps_for PassesOwn.never rfl (pi_range1 rfl m_range (pa_cons (pe_callB (call_max2 rfl) rfl m_max bt_max (pa_cons pe_int (pa_cons (pe_callB (call_min2 rfl) rfl m_min bt_min (pa_cons (pe_callB call_len_seq rfl m_len PySem.boot_len (pa_cons (pv 0) pa_nil)) (pa_cons pe_int pa_nil))) pa_nil))) pa_nil)) (pg_name (i := 1) sc_law.nd rfl (Or.inl rfl)) (pss_cons (ps_set (i := 2) sc_law.nd rfl (Or.inl rfl) (pe_call GDE (hr.mono h2) rfl mDE kDE bDE .nil pass0 (pa_cons (pe_call GCE (hr.mono h1) rfl mCE kCE bCE .nil pass0 (pa_cons (pv 0) (pa_cons (pv 1) pa_nil))) (pa_cons pe_int pa_nil))))
    (pss_cons (ps_set (i := 3) sc_law.nd rfl (Or.inl rfl) (pe_call GLY (hr.mono h2) rfl mLY kLY bLY .nil pass0 (pa_cons (pv 2) (pa_cons pe_int (pa_cons (pe_ix ix_list (pe_lst (pa_cons pe_int (pa_cons pe_int pa_nil))) (pe_op op_mod (pe_call GNX (hr.mono h1) rfl mNX kNX bNX .nil pass0 (pa_cons (pv 2) pa_nil)) pe_int) (fun _ _ => rfl)) pa_nil)))))
    (pss_cons (ps_set (i := 4) sc_law.nd rfl (Or.inl rfl) (pe_call GSK (hr.mono h21) rfl mSK kSK bSK .nil pass0 (pa_cons (pv 2) (pa_cons pe_int pa_nil))))
    (pss_cons (ps_setC (i := 5) sc_law.nd rfl rfl (dsc := defScope s_law) (N := ["script", "k", "deck", "lying", "kinds", "sizes", "some", "handed", "found"]) (tgs := ["kind"]) (outs := []) (N' := ["kind"]) ⟨rfl, by decide +kernel, by decide +kernel, by decide +kernel, rfl, by decide +kernel, by decide +kernel, by decide +kernel⟩ (pi_list (pv 4)) (fun _ _ _ _ _ => (pg_name (i := 0) (show (["kind"] : List Str).Nodup by decide +kernel) rfl (Or.inl rfl) (.inr rfl))) (tgt_name (by decide)) (fun _ _ _ _ _ => pcs_nil) (fun _ _ _ _ _ => (pe_call GRM (hr.mono h6) rfl mRM kRM bRM .nil pass0 (pa_cons (pv 0) pa_nil))))
    (pss_one (ps_for PassesOwn.never rfl (pi_list (pe_call GLT (hr.mono h2) rfl mLT kLT bLT .nil pass0 (pa_cons (pv 2) (pa_cons (pv 5) (pa_cons (pv 3) (pa_cons (pe_call GLD (hr.mono h2) rfl mLD kLD bLD .nil pass0 (pa_cons (pv 2) (pa_cons (pv 5) (pa_cons (pv 3) pa_nil)))) pa_nil)))))) (pg_name (i := 6) sc_law.nd rfl (Or.inl rfl)) (pss_cons (ps_set (i := 7) sc_law.nd rfl (Or.inl rfl) (pe_call GCP (hr.mono h25) rfl mCP kCP bCP .nil pass0 (pa_cons (pe_lst (pa_cons (pv 4) (pa_cons (pv 3) (pa_cons (pv 6) pa_nil)))) pa_nil)))
    (pss_cons (ps_set (i := 8) sc_law.nd rfl (Or.inl rfl) (pe_call GIS (hr.mono h21) rfl mIS kIS bIS .nil pass0 (pa_cons (pe_ix ix_list (pv 7) pe_int (fun _ _ => rfl)) (pa_cons (pe_ix ix_list (pv 7) pe_int (fun _ _ => rfl)) (pa_cons (pe_ix ix_list (pv 7) pe_int (fun _ _ => rfl)) pa_nil)))))
    (pss_cons (ps_if (PW.pt (pw_or (pt_not (pt_val (pe_callB call_isinst rfl m_isinstance bt_isinstance (pa_cons (pv 8) (pa_cons (pe_bltn (v := .ty "bool") rfl m_bool bt_bool rfl) pa_nil))))) (pw_or1 (pt_cmpR op_ne (pv 8) (pe_call GIP (hr.mono h1) rfl mIP kIP bIP .nil pass0 (pa_cons (pv 5) (pa_cons (pv 3) (pa_cons (pv 6) pa_nil)))) (nomark _))))) (pss_one (ps_ret pe_bl)) pss_nil)
    (pss_one (ps_if (pt_cmpR (op_neSame hr.units) (pv 7) (pe_lst (pa_cons (pv 4) (pa_cons (pv 3) (pa_cons (pv 6) pa_nil)))) (nomark _)) (pss_one (ps_ret pe_bl)) pss_nil))))))))))))
    (pss_one (ps_ret pe_bl))), ?_⟩
  have hl : (ns.map V.int).length = ns.length := List.length_map _
  refine ⟨_, rfl, a, _, rfl, .inl hS, _, _, rfl, _, _, rfl, _, rfl, ?_, ?_, ?_⟩
  · rw [hl]; split <;> (try split) <;> omega
  · rw [hl]; split <;> (try split) <;> omega
  refine for_range (fun i σ H => ∃ x1 x2 x3 x4 x5 x6 x7 x8, σ = [some (.ref a), x1, x2, x3, x4, x5, x6, x7, x8] ∧ SqL K H a (ns.map V.int)) ⟨_, _, _, _, _, _, _, _, rfl, hS⟩ (fun i σ H hi hP => ?_) (fun σ H hP => q H)
  obtain ⟨x1, x2, x3, x4, x5, x6, x7, x8, rfl, hS⟩ := hP
  refine ⟨_, rfl, _, rfl, a, ns, _, rfl, hS, by omega, fun cell => ⟨cell, 110, rfl, by decide, by decide, fun p H1 hp e1 hP1 => ?_⟩⟩
  refine ⟨_, rfl, lists3 2 (by decide), fun s1 hs1 => ⟨_, rfl, p, rfl, hP1.same (same_new hs1 _), fun r3 H3 r30 r31 e3 hP3 => ?_⟩⟩
  have b0 : (0 : Int) ≤ r3 % 2 := Int.emod_nonneg _ (by decide)
  have b1 : r3 % 2 < 2 := Int.emod_lt_of_pos _ (by decide)
  obtain ⟨vz, hv2, hvm⟩ := atI_in (xs := [V.int 4, V.int 20]) b0 b1
  obtain ⟨far, rfl, hfar⟩ := two_of hvm
  refine ⟨_, _, rfl, rfl, (by show (0 : Int) < 2; decide), s1, _, _, _, rfl, rfl, SqL.of (e3.get (hP1.ne hs1) upd_same), hv2, ?_⟩
  refine ⟨p, 6, far, rfl, hP3, by decide, by decide, by omega, by omega, fun ly l lv H4 e4 hl0 hlp hly hlv hLy _ hly6 hP4 => ?_⟩
  have eB : SameX p H H4 := (((SameX.of e1).trans (SameX.of (same_new hs1 _))).trans e3).trans e4
  clear hs1 e3 e4 hP3 hl0 hv2 hvm e1 hP1
  refine ⟨_, rfl, p, 6, rfl, hP4, by decide, by decide, fun ks v H5 e5 hD hF hdp hlen hrm hP5 => ?_⟩
  have eS5 : SameX p H H5 := eB.trans e5
  have hl5 : H5 l = some (.lst lv) := e5.get hlp hly
  have hlv5 : IsDs (hide p H5) (ly.map rdt) lv := hlv.same e5
  obtain ⟨ak, ws, rfl, hak', hws⟩ := hD
  obtain ⟨hakp, hak⟩ := hide_some hak'
  clear hak' hlv hly e5 eB hP4
  obtain ⟨hok, hfu⟩ := fitK_ok2 hF
  have hl6n : ks.length ≤ 6 := by omega
  have hR := rm_ok6 hF hl6n hrm
  have hlw : ws.length = ks.length := by rw [hws.len, dtK_len]
  have hlr : (rmK ks).length = ks.length := lenK ks
  refine ⟨_, rfl, ak, rfl, ⟨_, SqL.of hak⟩, ?_⟩
  refine comp_list (xs := ws) (fun i acc H' => Same H5 H' ∧ IsDs (hide p H') (((rmK ks).take i).map rdt) acc) (by omega) ⟨Same.refl _, rfl⟩ (fun i acc H' hi ⟨e, ea⟩ => ⟨SqL.of (e _ _ hak), by rw [ea.len, List.length_map, List.length_take]; omega⟩) (fun i x acc H' hx ⟨e, ea⟩ => ?_) (fun acc H6 ⟨e6, ea⟩ lz hlz => ?_)
  · obtain ⟨k, ek, hkx⟩ := kinds_at (hws.same (hide_sub _ _)) hx
    obtain ⟨ok1, ok2⟩ := ok_at hok ek
    refine nameYes ?_
    refine ⟨_, rfl, k, x, rfl, hkx.same e, ok1, fullK_at hfu ek, by omega, by decide, fun t H3 e3 ht => ⟨e.trans e3, ?_⟩⟩
    have tp : t ≠ p := by
      obtain ⟨ms, q1, _⟩ := (hP5.same e).same e3
      exact fun z => by rw [z, q1] at ht; cases ht
    rw [take_snoc (rmK_at ek), List.map_append]
    exact IsDs.snoc (d := rdt k.rm) ⟨t, _, rfl, by rw [hide_ne tp]; exact ht, _, _, rfl, rfl, _, _, rfl, rfl, rfl⟩ (ea.same (hide_same e3))
  rw [hlw, ← hlr, List.take_length] at ea
  have e7 : Same H5 (upd H6 lz (.lst acc)) := e6.trans (same_new hlz _)
  have hz7 : (upd H6 lz (.lst acc)) lz = some (.lst acc) := upd_same
  have ea7 : IsDs (hide p (upd H6 lz (.lst acc))) ((rmK ks).map rdt) acc := ea.same (hide_same (same_new hlz _))
  have nlz : lz ≠ p := (hP5.same e6).ne hlz
  generalize upd H6 lz (.lst acc) = H7 at e7 hz7 ea7
  clear e6 ea hlz
  have hP7 := hP5.same e7
  have hl7 := e7 _ _ hl5
  have hlv7 : IsDs (hide p H7) (ly.map rdt) lv := hlv5.same (hide_same e7)
  refine ⟨_, rfl, _, rfl, _, rfl, _, rfl, _, rfl, _, rfl, p, lz, l, acc, lv, rmK ks, ly, rfl, hP7, nlz, hlp, hz7, ea7, hl7, hlv7, hR, hLy, fun ps lp H8 e8 hlp0 hlpp hlp8 hpl hbd hP8 => ?_⟩
  refine ⟨p, lz, l, lp, acc, lv, rmK ks, ly, ps, rfl, hP8, nlz, hlp, hlpp, e8.get nlz hz7, ea7.same e8, e8.get hlp hl7, hlv7.same e8, hlp8, hpl, hR, hLy, fun L vs H9 e9 hL0 hLp hL9 hls hvl hP9 => ⟨L, rfl, ⟨_, SqL.of hL9⟩, ?_⟩⟩
  have e79 : SameX p H7 H9 := e8.trans e9
  have eX9 : SameX p H H9 := (eS5.trans (SameX.of e7)).trans e79
  have hS9 : SqL K H9 a (ns.map V.int) := seq_x hS hp eX9
  have hz9 := e79.get nlz hz7
  have ea9 : IsDs H9 ((rmK ks).map rdt) acc := (ea7.same e79).same (hide_sub _ _)
  have hl9 := e79.get hlp hl7
  have hlv9 : IsDs H9 (ly.map rdt) lv := (hlv7.same e79).same (hide_sub _ _)
  have hak9 : H9 ak = some (.lst ws) := e79.get hakp (e7 _ _ hak)
  have hws9 : IsDs H9 (dtK ks) ws := ((hws.same (hide_same e7)).same e79).same (hide_sub _ _)
  have hls9 : LsOk H9 vs := hls.same (hide_sub _ _)
  clear hls hP8 hP9 e8 e9 e79 eX9 hlp8 hlp0 hlv7 hl7 hP7 ea7 hz7 e7 hlv5 hl5 hP5 hws hak eS5 hbd
  obtain ⟨rsm, rdp⟩ := rdt_sm ly
  have hdkd := dtK_deep ks
  have hl20 := hLy.2.1
  refine for_list (xs := vs) (fun t σ H' => ∃ x6 x7 x8, σ = [some (.ref a), some (.int (0 + (i : Int))), some (.ref p), some (.ref l), some (.ref ak), some (.ref lz), x6, x7, x8] ∧ Same H9 H') ⟨_, _, _, rfl, Same.refl _⟩ (fun t σ H' hi ⟨x6, x7, x8, es, e⟩ => SqL.of (e _ _ hL9)) (fun t x σ H' hx ⟨x6, x7, x8, es, e⟩ => ?_) (fun σ H' ⟨x6, x7, x8, es, e⟩ => ?_)
  · subst es
    obtain ⟨b, xs, rfl, hb9, ⟨zs, rfl⟩, hxl⟩ := hls9 x (List.mem_of_getElem? hx)
    rw [List.length_map] at hxl
    have hdi := deep_ints zs
    have hdk : IsD H' (.lst (dtK ks)) (.ref ak) := ⟨ak, ws, rfl, e _ _ hak9, hws9.same e⟩
    have hdl : IsD H' (.lst (ly.map rdt)) (.ref l) := ⟨l, lv, rfl, e _ _ hl9, hlv9.same e⟩
    have hds : IsD H' (.lst (zs.map Dt.int)) (.ref b) := ⟨b, _, rfl, e _ _ hb9, ints_is zs⟩
    have hsm : (Dt.lst [.lst (dtK ks), .lst (ly.map rdt), .lst (zs.map Dt.int)]).Sm := ⟨by show 3 ≤ 1000; decide, ⟨by rw [dtK_len]; omega, dtK_sm ks hok⟩, ⟨by rw [List.length_map]; omega, rsm⟩, ⟨by rw [List.length_map]; omega, ints_sm zs⟩, trivial⟩
    have hdeep : (Dt.lst [.lst (dtK ks), .lst (ly.map rdt), .lst (zs.map Dt.int)]).deep ≤ 24 := by
      show max (deepD (dtK ks) + 1) (max (deepD (ly.map rdt) + 1) (max (deepD (zs.map Dt.int) + 1) 0)) + 1 ≤ 24
      omega
    refine ⟨_, rfl, _, rfl, _, rfl, lists3 3 (by decide), fun lh hlh => ?_⟩
    have s9 := same_new hlh (.lst [.ref ak, .ref l, .ref b])
    refine ⟨.lst [.lst (dtK ks), .lst (ly.map rdt), .lst (zs.map Dt.int)], .ref lh, rfl, ⟨lh, _, rfl, upd_same, _, _, rfl, hdk.same s9, _, _, rfl, hdl.same s9, _, _, rfl, hds.same s9, rfl⟩, hsm, hdeep, fun v' H10 e10 hh => ?_⟩
    have e91 := (e.trans s9).trans e10
    obtain ⟨ah, hv, rfl, hah, vk, vr, rfl, hvk, vl, vr2, rfl, hvl, vs3, vr3, rfl, hvs, rfl⟩ := id hh
    obtain ⟨ck, cw, rfl, hck, hcw⟩ := id hvk
    obtain ⟨cl, cv, rfl, hcl, hcv⟩ := id hvl
    obtain ⟨cs, cz, rfl, hcs, hcz⟩ := id hvs
    rw [ints_back hcz] at hcs
    refine ⟨_, rfl, ah, _, _, _, rfl, rfl, SqL.of hah, rfl, _, rfl, ah, _, _, _, rfl, rfl, SqL.of hah, rfl, _, rfl, ah, _, _, _, rfl, rfl, SqL.of hah, rfl, ?_⟩
    refine ⟨ck, cl, cs, cw, cv, ks, ly, zs, rfl, hck, hcw, hok, hdp, by decide, hcl, hcv, hcs, hR, hLy, hxl, fun r H11 e11 hr1 => ?_⟩
    have e92 := e91.trans e11
    refine ⟨_, rfl, _, _, _, _, rfl, .bl _, kit_self _, _, rfl, iteF ⟨_, rfl, _, rfl, _, rfl, _, rfl, lz, l, b, acc, lv, rmK ks, ly, zs, rfl, e92 _ _ hz9, ea9.same e92, e92 _ _ hl9, hlv9.same e92, e92 _ _ hb9, hR, hLy, hxl, fun r2 H12 e12 hr2 => ⟨rfl, _, rfl, iteNS (congrArg V.bl (Bool.eq_iff_iff.mpr (hr1.trans hr2.symm))) ?_⟩⟩⟩
    have e93 := e92.trans e12
    refine ⟨_, rfl, _, rfl, _, rfl, _, rfl, lists3 3 (by decide), fun ln hln => ?_⟩
    have s12 := same_new hln (.lst [.ref ak, .ref l, .ref b])
    have e94 := e93.trans s12
    exact ⟨.lst [.lst (dtK ks), .lst (ly.map rdt), .lst (zs.map Dt.int)], by omega, .inl ⟨_, rfl⟩, ((hh.same e11).same e12).same s12, ⟨ln, _, rfl, upd_same, _, _, rfl, ⟨ak, ws, rfl, e94 _ _ hak9, hws9.same e94⟩, _, _, rfl, ⟨l, lv, rfl, e94 _ _ hl9, hlv9.same e94⟩, _, _, rfl, ⟨b, _, rfl, e94 _ _ hb9, ints_is zs⟩, rfl⟩, _, rfl, iteF ⟨_, _, _, rfl, e94⟩⟩
  · subst es
    exact ⟨_, _, _, _, _, _, _, _, rfl, sql_same hS9 e⟩
end

theorem all_mk {l : PySem.W.OpenLaw} {w : World} {K : PySem.W.Frag} {h : Heap} {mg : Str → Option Value} {fa f0 f1 f2 f3 f4 f5 f6 f7 f8 f9 f10 f11 f12 f13 f14 f15 f16 f17 f18 f19 f20 f21 f22 f23 f24 f25 f26 f27 f28 f29 f30 : Addr} (X : K.In h) (G : h.Ns mainGlobals mg) (hfa : mg "law" = some (.ref fa))
    {od0 an0 od1 an1 od2 an2 od3 an3 od4 an4 od5 an5 od6 an6 od7 an7 od8 an8 od9 an9 od10 an10 od11 an11 od12 an12 od13 an13 od14 an14 od15 an15 od16 an16 od17 an17 od18 an18 od19 an19 od20 an20 od21 an21 od22 an22 od23 an23 od24 an24 od25 an25 od26 an26 od27 an27 od28 an28 od29 an29 od30 an30 : Option Addr} {sl0 sl1 sl2 sl3 sl4 sl5 sl6 sl7 sl8 sl9 sl10 sl11 sl12 sl13 sl14 sl15 sl16 sl17 sl18 sl19 sl20 sl21 sl22 sl23 sl24 sl25 sl26 sl27 sl28 sl29 sl30 : Array (Option Value)} {oc0 kV0 dc0 pm0 cd0 ct0 oc1 kV1 dc1 pm1 cd1 ct1 oc2 kV2 dc2 pm2 cd2 ct2 oc3 kV3 dc3 pm3 cd3 ct3 oc4 kV4 dc4 pm4 cd4 ct4 oc5 kV5 dc5 pm5 cd5 ct5 oc6 kV6 dc6 pm6 cd6 ct6 oc7 kV7 dc7 pm7 cd7 ct7 oc8 kV8 dc8 pm8 cd8 ct8 oc9 kV9 dc9 pm9 cd9 ct9 oc10 kV10 dc10 pm10 cd10 ct10 oc11 kV11 dc11 pm11 cd11 ct11 oc12 kV12 dc12 pm12 cd12 ct12 oc13 kV13 dc13 pm13 cd13 ct13 oc14 kV14 dc14 pm14 cd14 ct14 oc15 kV15 dc15 pm15 cd15 ct15 oc16 kV16 dc16 pm16 cd16 ct16 oc17 kV17 dc17 pm17 cd17 ct17 oc18 kV18 dc18 pm18 cd18 ct18 oc19 kV19 dc19 pm19 cd19 ct19 oc20 kV20 dc20 pm20 cd20 ct20 oc21 kV21 dc21 pm21 cd21 ct21 oc22 kV22 dc22 pm22 cd22 ct22 oc23 kV23 dc23 pm23 cd23 ct23 oc24 kV24 dc24 pm24 cd24 ct24 oc25 kV25 dc25 pm25 cd25 ct25 oc26 kV26 dc26 pm26 cd26 ct26 oc27 kV27 dc27 pm27 cd27 ct27 oc28 kV28 dc28 pm28 cd28 ct28 oc29 kV29 dc29 pm29 cd29 ct29 oc30 kV30 dc30 pm30 cd30 ct30 : Value}
    (a0 : PySem.W.nsIn K mainGlobals "is_whole" = some (some (.ref f0))) (l0 : K.lookup f0 = some ⟨oc0, od0, .func (PySem.W.fnOf "is_whole" "is_whole" (defArgs s_is_whole) (defBody s_is_whole) (defScope s_is_whole) .none kV0 dc0 pm0 an0 cd0 ct0), sl0⟩) (c0 : PySem.W.codeIn K cd0 "is_whole" = true) (k0 : PySem.W.keepIn K (.ref f0) = true)
    (a1 : PySem.W.nsIn K mainGlobals "rounded_up" = some (some (.ref f1))) (l1 : K.lookup f1 = some ⟨oc1, od1, .func (PySem.W.fnOf "rounded_up" "rounded_up" (defArgs s_rounded_up) (defBody s_rounded_up) (defScope s_rounded_up) .none kV1 dc1 pm1 an1 cd1 ct1), sl1⟩) (c1 : PySem.W.codeIn K cd1 "rounded_up" = true) (k1 : PySem.W.keepIn K (.ref f1) = true)
    (a2 : PySem.W.nsIn K mainGlobals "room_of" = some (some (.ref f2))) (l2 : K.lookup f2 = some ⟨oc2, od2, .func (PySem.W.fnOf "room_of" "room_of" (defArgs s_room_of) (defBody s_room_of) (defScope s_room_of) .none kV2 dc2 pm2 an2 cd2 ct2), sl2⟩) (c2 : PySem.W.codeIn K cd2 "room_of" = true) (k2 : PySem.W.keepIn K (.ref f2) = true)
    (a3 : PySem.W.nsIn K mainGlobals "rooms_of" = some (some (.ref f3))) (l3 : K.lookup f3 = some ⟨oc3, od3, .func (PySem.W.fnOf "rooms_of" "rooms_of" (defArgs s_rooms_of) (defBody s_rooms_of) (defScope s_rooms_of) .none kV3 dc3 pm3 an3 cd3 ct3), sl3⟩) (c3 : PySem.W.codeIn K cd3 "rooms_of" = true) (k3 : PySem.W.keepIn K (.ref f3) = true)
    (a4 : PySem.W.nsIn K mainGlobals "greatest_multiple" = some (some (.ref f4))) (l4 : K.lookup f4 = some ⟨oc4, od4, .func (PySem.W.fnOf "greatest_multiple" "greatest_multiple" (defArgs s_greatest_multiple) (defBody s_greatest_multiple) (defScope s_greatest_multiple) .none kV4 dc4 pm4 an4 cd4 ct4), sl4⟩) (c4 : PySem.W.codeIn K cd4 "greatest_multiple" = true) (k4 : PySem.W.keepIn K (.ref f4) = true)
    (a5 : PySem.W.nsIn K mainGlobals "step_of" = some (some (.ref f5))) (l5 : K.lookup f5 = some ⟨oc5, od5, .func (PySem.W.fnOf "step_of" "step_of" (defArgs s_step_of) (defBody s_step_of) (defScope s_step_of) .none kV5 dc5 pm5 an5 cd5 ct5), sl5⟩) (c5 : PySem.W.codeIn K cd5 "step_of" = true) (k5 : PySem.W.keepIn K (.ref f5) = true)
    (a6 : PySem.W.nsIn K mainGlobals "room_of_row" = some (some (.ref f6))) (l6 : K.lookup f6 = some ⟨oc6, od6, .func (PySem.W.fnOf "room_of_row" "room_of_row" (defArgs s_room_of_row) (defBody s_room_of_row) (defScope s_room_of_row) .none kV6 dc6 pm6 an6 cd6 ct6), sl6⟩) (c6 : PySem.W.codeIn K cd6 "room_of_row" = true) (k6 : PySem.W.keepIn K (.ref f6) = true)
    (a7 : PySem.W.nsIn K mainGlobals "room_of_record" = some (some (.ref f7))) (l7 : K.lookup f7 = some ⟨oc7, od7, .func (PySem.W.fnOf "room_of_record" "room_of_record" (defArgs s_room_of_record) (defBody s_room_of_record) (defScope s_room_of_record) .none kV7 dc7 pm7 an7 cd7 ct7), sl7⟩) (c7 : PySem.W.codeIn K cd7 "room_of_record" = true) (k7 : PySem.W.keepIn K (.ref f7) = true)
    (a8 : PySem.W.nsIn K mainGlobals "places_behind" = some (some (.ref f8))) (l8 : K.lookup f8 = some ⟨oc8, od8, .func (PySem.W.fnOf "places_behind" "places_behind" (defArgs s_places_behind) (defBody s_places_behind) (defScope s_places_behind) .none kV8 dc8 pm8 an8 cd8 ct8), sl8⟩) (c8 : PySem.W.codeIn K cd8 "places_behind" = true) (k8 : PySem.W.keepIn K (.ref f8) = true)
    (a9 : PySem.W.nsIn K mainGlobals "room_of_choice" = some (some (.ref f9))) (l9 : K.lookup f9 = some ⟨oc9, od9, .func (PySem.W.fnOf "room_of_choice" "room_of_choice" (defArgs s_room_of_choice) (defBody s_room_of_choice) (defScope s_room_of_choice) .none kV9 dc9 pm9 an9 cd9 ct9), sl9⟩) (c9 : PySem.W.codeIn K cd9 "room_of_choice" = true) (k9 : PySem.W.keepIn K (.ref f9) = true)
    (a10 : PySem.W.nsIn K mainGlobals "chosen_at" = some (some (.ref f10))) (l10 : K.lookup f10 = some ⟨oc10, od10, .func (PySem.W.fnOf "chosen_at" "chosen_at" (defArgs s_chosen_at) (defBody s_chosen_at) (defScope s_chosen_at) .none kV10 dc10 pm10 an10 cd10 ct10), sl10⟩) (c10 : PySem.W.codeIn K cd10 "chosen_at" = true) (k10 : PySem.W.keepIn K (.ref f10) = true)
    (a11 : PySem.W.nsIn K mainGlobals "is_placing" = some (some (.ref f11))) (l11 : K.lookup f11 = some ⟨oc11, od11, .func (PySem.W.fnOf "is_placing" "is_placing" (defArgs s_is_placing) (defBody s_is_placing) (defScope s_is_placing) .none kV11 dc11 pm11 an11 cd11 ct11), sl11⟩) (c11 : PySem.W.codeIn K cd11 "is_placing" = true) (k11 : PySem.W.keepIn K (.ref f11) = true)
    (a12 : PySem.W.nsIn K mainGlobals "is_place" = some (some (.ref f12))) (l12 : K.lookup f12 = some ⟨oc12, od12, .func (PySem.W.fnOf "is_place" "is_place" (defArgs s_is_place) (defBody s_is_place) (defScope s_is_place) .none kV12 dc12 pm12 an12 cd12 ct12), sl12⟩) (c12 : PySem.W.codeIn K cd12 "is_place" = true) (k12 : PySem.W.keepIn K (.ref f12) = true)
    (a13 : PySem.W.nsIn K mainGlobals "share_no_byte" = some (some (.ref f13))) (l13 : K.lookup f13 = some ⟨oc13, od13, .func (PySem.W.fnOf "share_no_byte" "share_no_byte" (defArgs s_share_no_byte) (defBody s_share_no_byte) (defScope s_share_no_byte) .none kV13 dc13 pm13 an13 cd13 ct13), sl13⟩) (c13 : PySem.W.codeIn K cd13 "share_no_byte" = true) (k13 : PySem.W.keepIn K (.ref f13) = true)
    (a14 : PySem.W.nsIn K mainGlobals "stretches_at" = some (some (.ref f14))) (l14 : K.lookup f14 = some ⟨oc14, od14, .func (PySem.W.fnOf "stretches_at" "stretches_at" (defArgs s_stretches_at) (defBody s_stretches_at) (defScope s_stretches_at) .none kV14 dc14 pm14 an14 cd14 ct14), sl14⟩) (c14 : PySem.W.codeIn K cd14 "stretches_at" = true) (k14 : PySem.W.keepIn K (.ref f14) = true)
    (a15 : PySem.W.nsIn K mainGlobals "_law_cell_at" = some (some (.ref f15))) (l15 : K.lookup f15 = some ⟨oc15, od15, .func (PySem.W.fnOf "_law_cell_at" "_law_cell_at" (defArgs s_law_cell_at) (defBody s_law_cell_at) (defScope s_law_cell_at) .none kV15 dc15 pm15 an15 cd15 ct15), sl15⟩) (c15 : PySem.W.codeIn K cd15 "_law_cell_at" = true) (k15 : PySem.W.keepIn K (.ref f15) = true)
    (a16 : PySem.W.nsIn K mainGlobals "_law_stir" = some (some (.ref f16))) (l16 : K.lookup f16 = some ⟨oc16, od16, .func (PySem.W.fnOf "_law_stir" "_law_stir" (defArgs s_law_stir) (defBody s_law_stir) (defScope s_law_stir) .none kV16 dc16 pm16 an16 cd16 ct16), sl16⟩) (c16 : PySem.W.codeIn K cd16 "_law_stir" = true) (k16 : PySem.W.keepIn K (.ref f16) = true)
    (a17 : PySem.W.nsIn K mainGlobals "_law_deck" = some (some (.ref f17))) (l17 : K.lookup f17 = some ⟨oc17, od17, .func (PySem.W.fnOf "_law_deck" "_law_deck" (defArgs s_law_deck) (defBody s_law_deck) (defScope s_law_deck) .none kV17 dc17 pm17 an17 cd17 ct17), sl17⟩) (c17 : PySem.W.codeIn K cd17 "_law_deck" = true) (k17 : PySem.W.keepIn K (.ref f17) = true)
    (a18 : PySem.W.nsIn K mainGlobals "_law_next" = some (some (.ref f18))) (l18 : K.lookup f18 = some ⟨oc18, od18, .func (PySem.W.fnOf "_law_next" "_law_next" (defArgs s_law_next) (defBody s_law_next) (defScope s_law_next) .none kV18 dc18 pm18 an18 cd18 ct18), sl18⟩) (c18 : PySem.W.codeIn K cd18 "_law_next" = true) (k18 : PySem.W.keepIn K (.ref f18) = true)
    (a19 : PySem.W.nsIn K mainGlobals "_law_names" = some (some (.ref f19))) (l19 : K.lookup f19 = some ⟨oc19, od19, .func (PySem.W.fnOf "_law_names" "_law_names" (defArgs s_law_names) (defBody s_law_names) (defScope s_law_names) .none kV19 dc19 pm19 an19 cd19 ct19), sl19⟩) (c19 : PySem.W.codeIn K cd19 "_law_names" = true) (k19 : PySem.W.keepIn K (.ref f19) = true)
    (a20 : PySem.W.nsIn K mainGlobals "_law_kind" = some (some (.ref f20))) (l20 : K.lookup f20 = some ⟨oc20, od20, .func (PySem.W.fnOf "_law_kind" "_law_kind" (defArgs s_law_kind) (defBody s_law_kind) (defScope s_law_kind) .none kV20 dc20 pm20 an20 cd20 ct20), sl20⟩) (c20 : PySem.W.codeIn K cd20 "_law_kind" = true) (k20 : PySem.W.keepIn K (.ref f20) = true)
    (a21 : PySem.W.nsIn K mainGlobals "_law_up" = some (some (.ref f21))) (l21 : K.lookup f21 = some ⟨oc21, od21, .func (PySem.W.fnOf "_law_up" "_law_up" (defArgs s_law_up) (defBody s_law_up) (defScope s_law_up) .none kV21 dc21 pm21 an21 cd21 ct21), sl21⟩) (c21 : PySem.W.codeIn K cd21 "_law_up" = true) (k21 : PySem.W.keepIn K (.ref f21) = true)
    (a22 : PySem.W.nsIn K mainGlobals "_law_room" = some (some (.ref f22))) (l22 : K.lookup f22 = some ⟨oc22, od22, .func (PySem.W.fnOf "_law_room" "_law_room" (defArgs s_law_room) (defBody s_law_room) (defScope s_law_room) .none kV22 dc22 pm22 an22 cd22 ct22), sl22⟩) (c22 : PySem.W.codeIn K cd22 "_law_room" = true) (k22 : PySem.W.keepIn K (.ref f22) = true)
    (a23 : PySem.W.nsIn K mainGlobals "_law_bounded" = some (some (.ref f23))) (l23 : K.lookup f23 = some ⟨oc23, od23, .func (PySem.W.fnOf "_law_bounded" "_law_bounded" (defArgs s_law_bounded) (defBody s_law_bounded) (defScope s_law_bounded) .none kV23 dc23 pm23 an23 cd23 ct23), sl23⟩) (c23 : PySem.W.codeIn K cd23 "_law_bounded" = true) (k23 : PySem.W.keepIn K (.ref f23) = true)
    (a24 : PySem.W.nsIn K mainGlobals "_law_lying" = some (some (.ref f24))) (l24 : K.lookup f24 = some ⟨oc24, od24, .func (PySem.W.fnOf "_law_lying" "_law_lying" (defArgs s_law_lying) (defBody s_law_lying) (defScope s_law_lying) .none kV24 dc24 pm24 an24 cd24 ct24), sl24⟩) (c24 : PySem.W.codeIn K cd24 "_law_lying" = true) (k24 : PySem.W.keepIn K (.ref f24) = true)
    (a25 : PySem.W.nsIn K mainGlobals "_law_some_kinds" = some (some (.ref f25))) (l25 : K.lookup f25 = some ⟨oc25, od25, .func (PySem.W.fnOf "_law_some_kinds" "_law_some_kinds" (defArgs s_law_some_kinds) (defBody s_law_some_kinds) (defScope s_law_some_kinds) .none kV25 dc25 pm25 an25 cd25 ct25), sl25⟩) (c25 : PySem.W.codeIn K cd25 "_law_some_kinds" = true) (k25 : PySem.W.keepIn K (.ref f25) = true)
    (a26 : PySem.W.nsIn K mainGlobals "_law_is_placing" = some (some (.ref f26))) (l26 : K.lookup f26 = some ⟨oc26, od26, .func (PySem.W.fnOf "_law_is_placing" "_law_is_placing" (defArgs s_law_is_placing) (defBody s_law_is_placing) (defScope s_law_is_placing) .none kV26 dc26 pm26 an26 cd26 ct26), sl26⟩) (c26 : PySem.W.codeIn K cd26 "_law_is_placing" = true) (k26 : PySem.W.keepIn K (.ref f26) = true)
    (a27 : PySem.W.nsIn K mainGlobals "_law_copy" = some (some (.ref f27))) (l27 : K.lookup f27 = some ⟨oc27, od27, .func (PySem.W.fnOf "_law_copy" "_law_copy" (defArgs s_law_copy) (defBody s_law_copy) (defScope s_law_copy) .none kV27 dc27 pm27 an27 cd27 ct27), sl27⟩) (c27 : PySem.W.codeIn K cd27 "_law_copy" = true) (k27 : PySem.W.keepIn K (.ref f27) = true)
    (a28 : PySem.W.nsIn K mainGlobals "_law_laid" = some (some (.ref f28))) (l28 : K.lookup f28 = some ⟨oc28, od28, .func (PySem.W.fnOf "_law_laid" "_law_laid" (defArgs s_law_laid) (defBody s_law_laid) (defScope s_law_laid) .none kV28 dc28 pm28 an28 cd28 ct28), sl28⟩) (c28 : PySem.W.codeIn K cd28 "_law_laid" = true) (k28 : PySem.W.keepIn K (.ref f28) = true)
    (a29 : PySem.W.nsIn K mainGlobals "_law_lists" = some (some (.ref f29))) (l29 : K.lookup f29 = some ⟨oc29, od29, .func (PySem.W.fnOf "_law_lists" "_law_lists" (defArgs s_law_lists) (defBody s_law_lists) (defScope s_law_lists) .none kV29 dc29 pm29 an29 cd29 ct29), sl29⟩) (c29 : PySem.W.codeIn K cd29 "_law_lists" = true) (k29 : PySem.W.keepIn K (.ref f29) = true)
    (a30 : PySem.W.nsIn K mainGlobals "law" = some (some (.ref f30))) (l30 : K.lookup f30 = some ⟨oc30, od30, .func (PySem.W.fnOf "law" "law" (defArgs s_law) (defBody s_law) (defScope s_law) .none kV30 dc30 pm30 an30 cd30 ct30), sl30⟩) (c30 : PySem.W.codeIn K cd30 "law" = true) (k30 : PySem.W.keepIn K (.ref f30) = true)
    (z0 : PySem.W.nsIn K mainGlobals "isinstance" = some none)
    (z1 : PySem.W.nsIn K mainGlobals "int" = some none)
    (z2 : PySem.W.nsIn K mainGlobals "bool" = some none)
    (z3 : PySem.W.nsIn K mainGlobals "list" = some none)
    (z4 : PySem.W.nsIn K mainGlobals "tuple" = some none)
    (z5 : PySem.W.nsIn K mainGlobals "len" = some none)
    (z6 : PySem.W.nsIn K mainGlobals "all" = some none)
    (z7 : PySem.W.nsIn K mainGlobals "max" = some none)
    (z8 : PySem.W.nsIn K mainGlobals "min" = some none)
    (z9 : PySem.W.nsIn K mainGlobals "range" = some none)
    (z10 : PySem.W.nsIn K mainGlobals "zip" = some none)
    (z11 : PySem.W.nsIn K mainGlobals "enumerate" = some none)
    (z12 : PySem.W.nsIn K mainGlobals "sorted" = some none)
    : ∃ fd : FuncData, (∀ (s : Shared) (v : Value), BindsTo s fd ⟨[v], []⟩ [("script", v)]) ∧ ∀ base : Heap, K.In base → base.Ns mainGlobals mg → FnOk l.prog w K mg base CX0 30 fa fd ["script"] (spLaw K) := by
  have e := hfa.symm.trans (PySem.W.mg_of X G a30)
  cases e
  have x_is_whole : Fx K mg "is_whole" s_is_whole ["thing"] _ _ := ⟨fun_mk (st := s_is_whole) l0 c0 k0, (fun_mk (st := s_is_whole) l0 c0 k0).binds (ps := ["thing"]) fun _ _ _ _ _ _ us hl => match us, hl with | [_], _ => rfl, k0, PySem.W.mg_of X G a0⟩
  have x_rounded_up : Fx K mg "rounded_up" s_rounded_up ["number", "m"] _ _ := ⟨fun_mk (st := s_rounded_up) l1 c1 k1, (fun_mk (st := s_rounded_up) l1 c1 k1).binds (ps := ["number", "m"]) fun _ _ _ _ _ _ us hl => match us, hl with | [_, _], _ => rfl, k1, PySem.W.mg_of X G a1⟩
  have x_room_of : Fx K mg "room_of" s_room_of ["kind"] _ _ := ⟨fun_mk (st := s_room_of) l2 c2 k2, (fun_mk (st := s_room_of) l2 c2 k2).binds (ps := ["kind"]) fun _ _ _ _ _ _ us hl => match us, hl with | [_], _ => rfl, k2, PySem.W.mg_of X G a2⟩
  have x_rooms_of : Fx K mg "rooms_of" s_rooms_of ["kinds"] _ _ := ⟨fun_mk (st := s_rooms_of) l3 c3 k3, (fun_mk (st := s_rooms_of) l3 c3 k3).binds (ps := ["kinds"]) fun _ _ _ _ _ _ us hl => match us, hl with | [_], _ => rfl, k3, PySem.W.mg_of X G a3⟩
  have x_greatest_multiple : Fx K mg "greatest_multiple" s_greatest_multiple ["rooms"] _ _ := ⟨fun_mk (st := s_greatest_multiple) l4 c4 k4, (fun_mk (st := s_greatest_multiple) l4 c4 k4).binds (ps := ["rooms"]) fun _ _ _ _ _ _ us hl => match us, hl with | [_], _ => rfl, k4, PySem.W.mg_of X G a4⟩
  have x_step_of : Fx K mg "step_of" s_step_of ["room"] _ _ := ⟨fun_mk (st := s_step_of) l5 c5 k5, (fun_mk (st := s_step_of) l5 c5 k5).binds (ps := ["room"]) fun _ _ _ _ _ _ us hl => match us, hl with | [_], _ => rfl, k5, PySem.W.mg_of X G a5⟩
  have x_room_of_row : Fx K mg "room_of_row" s_room_of_row ["kind", "n"] _ _ := ⟨fun_mk (st := s_room_of_row) l6 c6 k6, (fun_mk (st := s_room_of_row) l6 c6 k6).binds (ps := ["kind", "n"]) fun _ _ _ _ _ _ us hl => match us, hl with | [_, _], _ => rfl, k6, PySem.W.mg_of X G a6⟩
  have x_room_of_record : Fx K mg "room_of_record" s_room_of_record ["kinds"] _ _ := ⟨fun_mk (st := s_room_of_record) l7 c7 k7, (fun_mk (st := s_room_of_record) l7 c7 k7).binds (ps := ["kinds"]) fun _ _ _ _ _ _ us hl => match us, hl with | [_], _ => rfl, k7, PySem.W.mg_of X G a7⟩
  have x_places_behind : Fx K mg "places_behind" s_places_behind ["rooms"] _ _ := ⟨fun_mk (st := s_places_behind) l8 c8 k8, (fun_mk (st := s_places_behind) l8 c8 k8).binds (ps := ["rooms"]) fun _ _ _ _ _ _ us hl => match us, hl with | [_], _ => rfl, k8, PySem.W.mg_of X G a8⟩
  have x_room_of_choice : Fx K mg "room_of_choice" s_room_of_choice ["kinds"] _ _ := ⟨fun_mk (st := s_room_of_choice) l9 c9 k9, (fun_mk (st := s_room_of_choice) l9 c9 k9).binds (ps := ["kinds"]) fun _ _ _ _ _ _ us hl => match us, hl with | [_], _ => rfl, k9, PySem.W.mg_of X G a9⟩
  have x_chosen_at : Fx K mg "chosen_at" s_chosen_at ["multiple"] _ _ := ⟨fun_mk (st := s_chosen_at) l10 c10 k10, (fun_mk (st := s_chosen_at) l10 c10 k10).binds (ps := ["multiple"]) fun _ _ _ _ _ _ us hl => match us, hl with | [_], _ => rfl, k10, PySem.W.mg_of X G a10⟩
  have x_is_placing : Fx K mg "is_placing" s_is_placing ["kinds", "lying", "places"] _ _ := ⟨fun_mk (st := s_is_placing) l11 c11 k11, (fun_mk (st := s_is_placing) l11 c11 k11).binds (ps := ["kinds", "lying", "places"]) fun _ _ _ _ _ _ us hl => match us, hl with | [_, _, _], _ => rfl, k11, PySem.W.mg_of X G a11⟩
  have x_is_place : Fx K mg "is_place" s_is_place ["thing", "multiple"] _ _ := ⟨fun_mk (st := s_is_place) l12 c12 k12, (fun_mk (st := s_is_place) l12 c12 k12).binds (ps := ["thing", "multiple"]) fun _ _ _ _ _ _ us hl => match us, hl with | [_, _], _ => rfl, k12, PySem.W.mg_of X G a12⟩
  have x_share_no_byte : Fx K mg "share_no_byte" s_share_no_byte ["rising"] _ _ := ⟨fun_mk (st := s_share_no_byte) l13 c13 k13, (fun_mk (st := s_share_no_byte) l13 c13 k13).binds (ps := ["rising"]) fun _ _ _ _ _ _ us hl => match us, hl with | [_], _ => rfl, k13, PySem.W.mg_of X G a13⟩
  have x_stretches_at : Fx K mg "stretches_at" s_stretches_at ["rooms", "places"] _ _ := ⟨fun_mk (st := s_stretches_at) l14 c14 k14, (fun_mk (st := s_stretches_at) l14 c14 k14).binds (ps := ["rooms", "places"]) fun _ _ _ _ _ _ us hl => match us, hl with | [_, _], _ => rfl, k14, PySem.W.mg_of X G a14⟩
  have x__law_cell_at : Fx K mg "_law_cell_at" s_law_cell_at ["script", "k"] _ _ := ⟨fun_mk (st := s_law_cell_at) l15 c15 k15, (fun_mk (st := s_law_cell_at) l15 c15 k15).binds (ps := ["script", "k"]) fun _ _ _ _ _ _ us hl => match us, hl with | [_, _], _ => rfl, k15, PySem.W.mg_of X G a15⟩
  have x__law_stir : Fx K mg "_law_stir" s_law_stir ["cell", "k"] _ _ := ⟨fun_mk (st := s_law_stir) l16 c16 k16, (fun_mk (st := s_law_stir) l16 c16 k16).binds (ps := ["cell", "k"]) fun _ _ _ _ _ _ us hl => match us, hl with | [_, _], _ => rfl, k16, PySem.W.mg_of X G a16⟩
  have x__law_deck : Fx K mg "_law_deck" s_law_deck ["cell", "many"] _ _ := ⟨fun_mk (st := s_law_deck) l17 c17 k17, (fun_mk (st := s_law_deck) l17 c17 k17).binds (ps := ["cell", "many"]) fun _ _ _ _ _ _ us hl => match us, hl with | [_, _], _ => rfl, k17, PySem.W.mg_of X G a17⟩
  have x__law_next : Fx K mg "_law_next" s_law_next ["deck"] _ _ := ⟨fun_mk (st := s_law_next) l18 c18 k18, (fun_mk (st := s_law_next) l18 c18 k18).binds (ps := ["deck"]) fun _ _ _ _ _ _ us hl => match us, hl with | [_], _ => rfl, k18, PySem.W.mg_of X G a18⟩
  have x__law_names : Fx K mg "_law_names" s_law_names ["deck", "many"] _ _ := ⟨fun_mk (st := s_law_names) l19 c19 k19, (fun_mk (st := s_law_names) l19 c19 k19).binds (ps := ["deck", "many"]) fun _ _ _ _ _ _ us hl => match us, hl with | [_, _], _ => rfl, k19, PySem.W.mg_of X G a19⟩
  have x__law_kind : Fx K mg "_law_kind" s_law_kind ["deck", "deep"] _ _ := ⟨fun_mk (st := s_law_kind) l20 c20 k20, (fun_mk (st := s_law_kind) l20 c20 k20).binds (ps := ["deck", "deep"]) fun _ _ _ _ _ _ us hl => match us, hl with | [_, _], _ => rfl, k20, PySem.W.mg_of X G a20⟩
  have x__law_up : Fx K mg "_law_up" s_law_up ["number", "m"] _ _ := ⟨fun_mk (st := s_law_up) l21 c21 k21, (fun_mk (st := s_law_up) l21 c21 k21).binds (ps := ["number", "m"]) fun _ _ _ _ _ _ us hl => match us, hl with | [_, _], _ => rfl, k21, PySem.W.mg_of X G a21⟩
  have x__law_room : Fx K mg "_law_room" s_law_room ["kind"] _ _ := ⟨fun_mk (st := s_law_room) l22 c22 k22, (fun_mk (st := s_law_room) l22 c22 k22).binds (ps := ["kind"]) fun _ _ _ _ _ _ us hl => match us, hl with | [_], _ => rfl, k22, PySem.W.mg_of X G a22⟩
  have x__law_bounded : Fx K mg "_law_bounded" s_law_bounded ["deck", "deep", "most"] _ _ := ⟨fun_mk (st := s_law_bounded) l23 c23 k23, (fun_mk (st := s_law_bounded) l23 c23 k23).binds (ps := ["deck", "deep", "most"]) fun _ _ _ _ _ _ us hl => match us, hl with | [_, _, _], _ => rfl, k23, PySem.W.mg_of X G a23⟩
  have x__law_lying : Fx K mg "_law_lying" s_law_lying ["deck", "most", "far"] _ _ := ⟨fun_mk (st := s_law_lying) l24 c24 k24, (fun_mk (st := s_law_lying) l24 c24 k24).binds (ps := ["deck", "most", "far"]) fun _ _ _ _ _ _ us hl => match us, hl with | [_, _, _], _ => rfl, k24, PySem.W.mg_of X G a24⟩
  have x__law_some_kinds : Fx K mg "_law_some_kinds" s_law_some_kinds ["deck", "most"] _ _ := ⟨fun_mk (st := s_law_some_kinds) l25 c25 k25, (fun_mk (st := s_law_some_kinds) l25 c25 k25).binds (ps := ["deck", "most"]) fun _ _ _ _ _ _ us hl => match us, hl with | [_, _], _ => rfl, k25, PySem.W.mg_of X G a25⟩
  have x__law_is_placing : Fx K mg "_law_is_placing" s_law_is_placing ["sizes", "lying", "places"] _ _ := ⟨fun_mk (st := s_law_is_placing) l26 c26 k26, (fun_mk (st := s_law_is_placing) l26 c26 k26).binds (ps := ["sizes", "lying", "places"]) fun _ _ _ _ _ _ us hl => match us, hl with | [_, _, _], _ => rfl, k26, PySem.W.mg_of X G a26⟩
  have x__law_copy : Fx K mg "_law_copy" s_law_copy ["thing"] _ _ := ⟨fun_mk (st := s_law_copy) l27 c27 k27, (fun_mk (st := s_law_copy) l27 c27 k27).binds (ps := ["thing"]) fun _ _ _ _ _ _ us hl => match us, hl with | [_], _ => rfl, k27, PySem.W.mg_of X G a27⟩
  have x__law_laid : Fx K mg "_law_laid" s_law_laid ["deck", "sizes", "lying"] _ _ := ⟨fun_mk (st := s_law_laid) l28 c28 k28, (fun_mk (st := s_law_laid) l28 c28 k28).binds (ps := ["deck", "sizes", "lying"]) fun _ _ _ _ _ _ us hl => match us, hl with | [_, _, _], _ => rfl, k28, PySem.W.mg_of X G a28⟩
  have x__law_lists : Fx K mg "_law_lists" s_law_lists ["deck", "sizes", "lying", "places"] _ _ := ⟨fun_mk (st := s_law_lists) l29 c29 k29, (fun_mk (st := s_law_lists) l29 c29 k29).binds (ps := ["deck", "sizes", "lying", "places"]) fun _ _ _ _ _ _ us hl => match us, hl with | [_, _, _, _], _ => rfl, k29, PySem.W.mg_of X G a29⟩
  have x_law : Fx K mg "law" s_law ["script"] _ _ := ⟨fun_mk (st := s_law) l30 c30 k30, (fun_mk (st := s_law) l30 c30 k30).binds (ps := ["script"]) fun _ _ _ _ _ _ us hl => match us, hl with | [_], _ => rfl, k30, PySem.W.mg_of X G a30⟩
  have m_isinstance := PySem.W.mg_none_of X G z0
  have m_int := PySem.W.mg_none_of X G z1
  have m_bool := PySem.W.mg_none_of X G z2
  have m_list := PySem.W.mg_none_of X G z3
  have m_tuple := PySem.W.mg_none_of X G z4
  have m_len := PySem.W.mg_none_of X G z5
  have m_all := PySem.W.mg_none_of X G z6
  have m_max := PySem.W.mg_none_of X G z7
  have m_min := PySem.W.mg_none_of X G z8
  have m_range := PySem.W.mg_none_of X G z9
  have m_zip := PySem.W.mg_none_of X G z10
  have m_enumerate := PySem.W.mg_none_of X G z11
  have m_sorted := PySem.W.mg_none_of X G z12
  refine ⟨PySem.W.fnOf "law" "law" (defArgs s_law) (defBody s_law) (defScope s_law) .none kV30 dc30 pm30 an30 cd30 ct30, fun s v => .of_eq rfl, fun base _ _ => ?_⟩
  exact have GRO : ∀ n, FnOk l.prog w K mg base CX0 (2 + 3 * n) _ _ ["kind"] (spRO n) := fun n => ro_all x_rounded_up x_room_of x_rooms_of x_greatest_multiple x_step_of x_room_of_row x_room_of_record x_places_behind x_room_of_choice x_chosen_at m_max m_zip n
    have GIS := ok_is (P := l.prog) (w := w) (base := base) x_is_placing.F x_rooms_of x_is_place x_share_no_byte x_stretches_at (ok_rs x_rooms_of.F (GRO 4) x_room_of.b x_room_of.k x_room_of.m) (ok_il x_is_place.F x_is_whole (ok_iw x_is_whole.F m_isinstance m_int m_bool)) (ok_sn x_share_no_byte.F m_all m_zip) (ok_sa x_stretches_at.F m_zip) (by decide) m_isinstance m_list m_len m_all m_zip m_sorted
    ok_law x_law.F x__law_cell_at x__law_deck x__law_next x__law_lying x__law_some_kinds x__law_room x__law_laid x__law_lists x__law_copy x_is_placing x__law_is_placing (ok_ce x__law_cell_at.F m_len) (ok_de x__law_deck.F (ok_st x__law_stir.F) x__law_stir.b x__law_stir.k x__law_stir.m m_range) (ok_nx x__law_next.F) (ok_ly x__law_lying.F x__law_next (ok_nx x__law_next.F) m_range) (ok_sk x__law_some_kinds.F x__law_next x__law_bounded (ok_nx x__law_next.F) (ok_bo x__law_bounded.F (ki_all x__law_kind x__law_next x__law_names m_range m_list m_zip m_len 5) x__law_kind.b x__law_kind.k x__law_kind.m (rm_all x__law_room x__law_up m_max 5) x__law_room.b x__law_room.k x__law_room.m (ok_nx x__law_next.F) x__law_next.b x__law_next.k x__law_next.m (by decide) (by decide)) m_range) (rm_all x__law_room x__law_up m_max 5) (ok_ld x__law_laid.F x__law_next x__law_up (ok_nx x__law_next.F) (ok_up x__law_up.F) m_range m_list m_len) (ok_lt x__law_lists.F x__law_next (ok_nx x__law_next.F) m_range m_list m_len m_int) (cp_all x__law_copy m_isinstance m_list m_tuple 24) GIS (ok_ip x__law_is_placing.F m_range m_list m_len) m_max m_min m_range m_len m_isinstance m_bool
end Lf
open PySem PySem.W PyProof.Rows
set_option maxRecDepth 100000 in
set_option maxHeartbeats 0 in
theorem PySem.Challenge.cw_laidfields_k14_placings_judged_holds : PySem.Challenge.rw_laidfields_k14_placings_judged.Holds := by
  w_on; o_law; k_head; (case hw => w_witness2)
  k_fill
  refine L2.walk_ofK (l := PySem.Challenge.rw_laidfields_k14_placings_judged) (n := 63) (k := 30) (x := "script") (CX := L2.CX0) (sp := Lf.spLaw) rfl (by decide) rfl ⟨rfl, by decide, by decide⟩ (fun w h Y => PySem.W.kIn_of Y) ?F ?S ?C
  case F =>
    intro w mg fa h KX G hmg
    refine' Lf.all_mk KX G hmg ?a0 ?l0 ?c0 ?k0 ?a1 ?l1 ?c1 ?k1 ?a2 ?l2 ?c2 ?k2 ?a3 ?l3 ?c3 ?k3 ?a4 ?l4 ?c4 ?k4 ?a5 ?l5 ?c5 ?k5 ?a6 ?l6 ?c6 ?k6 ?a7 ?l7 ?c7 ?k7 ?a8 ?l8 ?c8 ?k8 ?a9 ?l9 ?c9 ?k9 ?a10 ?l10 ?c10 ?k10 ?a11 ?l11 ?c11 ?k11 ?a12 ?l12 ?c12 ?k12 ?a13 ?l13 ?c13 ?k13 ?a14 ?l14 ?c14 ?k14 ?a15 ?l15 ?c15 ?k15 ?a16 ?l16 ?c16 ?k16 ?a17 ?l17 ?c17 ?k17 ?a18 ?l18 ?c18 ?k18 ?a19 ?l19 ?c19 ?k19 ?a20 ?l20 ?c20 ?k20 ?a21 ?l21 ?c21 ?k21 ?a22 ?l22 ?c22 ?k22 ?a23 ?l23 ?c23 ?k23 ?a24 ?l24 ?c24 ?k24 ?a25 ?l25 ?c25 ?k25 ?a26 ?l26 ?c26 ?k26 ?a27 ?l27 ?c27 ?k27 ?a28 ?l28 ?c28 ?k28 ?a29 ?l29 ?c29 ?k29 ?a30 ?l30 ?c30 ?k30 ?z0 ?z1 ?z2 ?z3 ?z4 ?z5 ?z6 ?z7 ?z8 ?z9 ?z10 ?z11 ?z12
    (case a0 => k_is); (case l0 => k_is); (case c0 => k_is); (case k0 => k_is)
    (case a1 => k_is); (case l1 => k_is); (case c1 => k_is); (case k1 => k_is)
    (case a2 => k_is); (case l2 => k_is); (case c2 => k_is); (case k2 => k_is)
    (case a3 => k_is); (case l3 => k_is); (case c3 => k_is); (case k3 => k_is)
    (case a4 => k_is); (case l4 => k_is); (case c4 => k_is); (case k4 => k_is)
    (case a5 => k_is); (case l5 => k_is); (case c5 => k_is); (case k5 => k_is)
    (case a6 => k_is); (case l6 => k_is); (case c6 => k_is); (case k6 => k_is)
    (case a7 => k_is); (case l7 => k_is); (case c7 => k_is); (case k7 => k_is)
    (case a8 => k_is); (case l8 => k_is); (case c8 => k_is); (case k8 => k_is)
    (case a9 => k_is); (case l9 => k_is); (case c9 => k_is); (case k9 => k_is)
    (case a10 => k_is); (case l10 => k_is); (case c10 => k_is); (case k10 => k_is)
    (case a11 => k_is); (case l11 => k_is); (case c11 => k_is); (case k11 => k_is)
    (case a12 => k_is); (case l12 => k_is); (case c12 => k_is); (case k12 => k_is)
    (case a13 => k_is); (case l13 => k_is); (case c13 => k_is); (case k13 => k_is)
    (case a14 => k_is); (case l14 => k_is); (case c14 => k_is); (case k14 => k_is)
    (case a15 => k_is); (case l15 => k_is); (case c15 => k_is); (case k15 => k_is)
    (case a16 => k_is); (case l16 => k_is); (case c16 => k_is); (case k16 => k_is)
    (case a17 => k_is); (case l17 => k_is); (case c17 => k_is); (case k17 => k_is)
    (case a18 => k_is); (case l18 => k_is); (case c18 => k_is); (case k18 => k_is)
    (case a19 => k_is); (case l19 => k_is); (case c19 => k_is); (case k19 => k_is)
    (case a20 => k_is); (case l20 => k_is); (case c20 => k_is); (case k20 => k_is)
    (case a21 => k_is); (case l21 => k_is); (case c21 => k_is); (case k21 => k_is)
    (case a22 => k_is); (case l22 => k_is); (case c22 => k_is); (case k22 => k_is)
    (case a23 => k_is); (case l23 => k_is); (case c23 => k_is); (case k23 => k_is)
    (case a24 => k_is); (case l24 => k_is); (case c24 => k_is); (case k24 => k_is)
    (case a25 => k_is); (case l25 => k_is); (case c25 => k_is); (case k25 => k_is)
    (case a26 => k_is); (case l26 => k_is); (case c26 => k_is); (case k26 => k_is)
    (case a27 => k_is); (case l27 => k_is); (case c27 => k_is); (case k27 => k_is)
    (case a28 => k_is); (case l28 => k_is); (case c28 => k_is); (case k28 => k_is)
    (case a29 => k_is); (case l29 => k_is); (case c29 => k_is); (case k29 => k_is)
    (case a30 => k_is); (case l30 => k_is); (case c30 => k_is); (case k30 => k_is)
    (case z0 => k_is); (case z1 => k_is); (case z2 => k_is); (case z3 => k_is); (case z4 => k_is); (case z5 => k_is); (case z6 => k_is); (case z7 => k_is); (case z8 => k_is); (case z9 => k_is); (case z10 => k_is); (case z11 => k_is); (case z12 => k_is)
  case S => exact fun K H a ns hl _ hS => ⟨a, ns, rfl, hS, hl, fun _ => rfl⟩
  case C => exact fun _ _ _ _ z => z
#print axioms PySem.Challenge.cw_laidfields_k14_placings_judged_holds
